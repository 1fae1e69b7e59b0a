/- HoldOne's walk. -/
import Derived.Test.YtfodabbmjggieaaGreatHdFct
import Derived.Deep.RegionHeld3
import Derived.Deep.Cut
import Derived.Deep.CutRange
namespace Go.Proofs.YtfodabbmjggieaaGreat
open Go.ChangeShapes Go.WideShapes Go.ChangeAt Go.RowKit
set_option linter.unusedVariables false

set_option maxHeartbeats 16000000 in
set_option maxRecDepth 20000 in
theorem one_walk (W : World) (x : Fm.Wd) (hx : Fm.WdIn W x) (A1 : Option Addr) (sc : List Hd.A) (cap1 : Nat) (hS : Fm.Acts W W.heap.size A1 sc ∧ sc.length ≤ 9223372036854775807 ∧ ∀ a ∈ sc, Hd.OkA a) (ix : Int) (hix : (Lit.int .i64 ix).wf = true) :
    Calls Tryz.prog 4 #[Fm.wv x, .slice A1 sc.length cap1, .int .i64 ix] W fun e w' => e = .returned (.bool true) ∧ Below W.heap.size W w' := by
  obtain ⟨fA, rs, fc, pA, ps, pc⟩ := x
  unfold Fm.wv
  obtain ⟨hF, hP, hl, hl2⟩ := hx
  obtain ⟨hS, hls, hoks⟩ := hS
  simp only at hF hP hl hl2 ⊢
  have HF := Lib.hid hF
  have HSc := Lib.hid hS
  have HOks := Lib.hid hoks
  by_cases hgood : Hd.Good rs ∧ Hd.MapsOk ps
  · have HBg := Lib.hid (fun w (hb : Below W.heap.size W w) => begun_ok fA pA rs ps fc pc W.heap.size w (hF.below hb (Nat.le_refl _)) (hP.below hb (Nat.le_refl _)) hb.size hgood.1 hgood.2)
    have HWf := Lib.hid hF.wf
    have HLgA := Lib.hid (fun (a : Hd.A) (ha : Hd.OkA a) w (hb : Below W.heap.size W w) => leg_any fA pA rs ps.length fc pc W.heap.size a w (hF.below hb (Nat.le_refl _)) hb.size hl ha)
    have HKO := Lib.hid (fun (a : Hd.A) (ha : Hd.OkA a) => Hd.keyOf_ok (rs := rs) ha hF.wf)
    clear hF hP hS hoks hgood
    generalize hn : rs.length = n at *
    generalize ps.length = n2 at *
    by_cases hlen : 100 < sc.length
    · have hd : decide (100 < (sc.length : Int)) = true := by simp; omega
      go_enter Tryz.func4, Tryz.ntmps4
      go_wp2_with (first
        | (refine Rw.wpList_box rfl 25 _ rfl [.slice fA n fc, .slice pA n2 pc] rfl ?_; intro w1 K1 b1 z1; have HB1 := Lib.hid b1; have HK1 := Lib.hid K1; have HAw := Lib.hid (awake_any w1); clear z1 b1 K1)
        | (go_at_call 7; refine HAw.out.mono ?_; rintro e w2 ⟨rfl, hb2⟩; have HB2 := Lib.hid (HB1.out.trans (hb2.mono HB1.out.size)); have HK2 := Lib.hid (HK1.out.below' hb2); have c0 : w2.cell? ⟨W.heap.size, 0, none⟩ = some (.slice fA n fc) := HK2.out.cell 0; have c1 : w2.cell? ⟨W.heap.size, 1, none⟩ = some (.slice pA n2 pc) := HK2.out.cell 1; have HBg2 := Lib.hid (HBg.out w2 HB2.out); clear hb2)
        | (go_at_call 8; refine HBg2.out.mono ?_; rintro e w3 ⟨Bt, p, t, m, A, cap, rs', gs, rfl, hA, hpr, hgs, hBt, hb3⟩; have HB3 := Lib.hid (HB2.out.trans (hb3.mono HB2.out.size)); have HA3 := Lib.hid hA; have HK3 := Lib.hid (HK2.out.below' hb3); have hlom : W.heap.size ≤ m := Nat.le_trans HB2.out.size (Nat.le_trans hBt hA.lom); have hml := hA.map.lt; have hWw := HK2.out.lt; have hlow : W.heap.size < m := Nat.lt_of_lt_of_le hWw (Nat.le_trans hBt hA.lom); clear hA hpr hgs c0 c1 hb3 hBt))
      go_ret
      exact ⟨rfl, HB3.out⟩
    · have hd : decide (100 < (sc.length : Int)) = false := by simp; omega
      by_cases h0 : ix < 0
      · have hd2 : decide (ix < 0) = true := by simp; omega
        go_enter Tryz.func4, Tryz.ntmps4
        go_wp2_with (first
          | (refine Rw.wpList_box rfl 25 _ rfl [.slice fA n fc, .slice pA n2 pc] rfl ?_; intro w1 K1 b1 z1; have HB1 := Lib.hid b1; have HK1 := Lib.hid K1; have HAw := Lib.hid (awake_any w1); clear z1 b1 K1)
          | (go_at_call 7; refine HAw.out.mono ?_; rintro e w2 ⟨rfl, hb2⟩; have HB2 := Lib.hid (HB1.out.trans (hb2.mono HB1.out.size)); have HK2 := Lib.hid (HK1.out.below' hb2); have c0 : w2.cell? ⟨W.heap.size, 0, none⟩ = some (.slice fA n fc) := HK2.out.cell 0; have c1 : w2.cell? ⟨W.heap.size, 1, none⟩ = some (.slice pA n2 pc) := HK2.out.cell 1; have HBg2 := Lib.hid (HBg.out w2 HB2.out); clear hb2)
          | (go_at_call 8; refine HBg2.out.mono ?_; rintro e w3 ⟨Bt, p, t, m, A, cap, rs', gs, rfl, hA, hpr, hgs, hBt, hb3⟩; have HB3 := Lib.hid (HB2.out.trans (hb3.mono HB2.out.size)); have HA3 := Lib.hid hA; have HK3 := Lib.hid (HK2.out.below' hb3); have hlom : W.heap.size ≤ m := Nat.le_trans HB2.out.size (Nat.le_trans hBt hA.lom); have hml := hA.map.lt; have hWw := HK2.out.lt; have hlow : W.heap.size < m := Nat.lt_of_lt_of_le hWw (Nat.le_trans hBt hA.lom); clear hA hpr hgs c0 c1 hb3 hBt))
        go_ret
        exact ⟨rfl, HB3.out⟩
      · have hd2 : decide (ix < 0) = false := by simp; omega
        by_cases h1 : (sc.length : Int) ≤ ix
        · have hd3 : decide ((sc.length : Int) ≤ ix) = true := by simp; omega
          go_enter Tryz.func4, Tryz.ntmps4
          go_wp2_with (first
            | (refine Rw.wpList_box rfl 25 _ rfl [.slice fA n fc, .slice pA n2 pc] rfl ?_; intro w1 K1 b1 z1; have HB1 := Lib.hid b1; have HK1 := Lib.hid K1; have HAw := Lib.hid (awake_any w1); clear z1 b1 K1)
            | (go_at_call 7; refine HAw.out.mono ?_; rintro e w2 ⟨rfl, hb2⟩; have HB2 := Lib.hid (HB1.out.trans (hb2.mono HB1.out.size)); have HK2 := Lib.hid (HK1.out.below' hb2); have c0 : w2.cell? ⟨W.heap.size, 0, none⟩ = some (.slice fA n fc) := HK2.out.cell 0; have c1 : w2.cell? ⟨W.heap.size, 1, none⟩ = some (.slice pA n2 pc) := HK2.out.cell 1; have HBg2 := Lib.hid (HBg.out w2 HB2.out); clear hb2)
            | (go_at_call 8; refine HBg2.out.mono ?_; rintro e w3 ⟨Bt, p, t, m, A, cap, rs', gs, rfl, hA, hpr, hgs, hBt, hb3⟩; have HB3 := Lib.hid (HB2.out.trans (hb3.mono HB2.out.size)); have HA3 := Lib.hid hA; have HK3 := Lib.hid (HK2.out.below' hb3); have hlom : W.heap.size ≤ m := Nat.le_trans HB2.out.size (Nat.le_trans hBt hA.lom); have hml := hA.map.lt; have hWw := HK2.out.lt; have hlow : W.heap.size < m := Nat.lt_of_lt_of_le hWw (Nat.le_trans hBt hA.lom); clear hA hpr hgs c0 c1 hb3 hBt))
          go_ret
          exact ⟨rfl, HB3.out⟩
        · have hd3 : decide ((sc.length : Int) ≤ ix) = false := by simp; omega
          obtain ⟨j, rfl⟩ : ∃ j : Nat, ix = j := ⟨ix.toNat, by omega⟩
          have hjl : j < sc.length := by omega
          obtain ⟨b, off, hA1, hbB, hrow⟩ := HSc.out (by omega)
          subst hA1
          have HRow : Hid (∀ i (hi : i < sc.length) w', Below W.heap.size W w' → w'.rangeAt b (off + i * 9) (Hd.acs sc[i])) := fun i hi w' hb q v hv => (hb.cell (p := ⟨b, _, none⟩) hbB).trans (hrow i hi q v hv)
          have HOkj := Lib.hid (HOks.out _ (List.getElem_mem hjl))
          have HLg := Lib.hid (HLgA.out _ HOkj.out)
          have HKj := Lib.hid (HKO.out _ HOkj.out)
          have HRj := Lib.hid (HRow.out j hjl)
          obtain ⟨ks, hks⟩ : ∃ y, y = Hd.keyOf rs sc[j] := ⟨_, rfl⟩
          rw [← hks] at HKj
          have hk1 : Hd.legOf rs sc[j] = ks.leg := by rw [hks]; rfl
          rw [hk1] at HLg
          have hk2 : (sc[j].row, sc[j].ltr) = ks.seat := by rw [hks]; rfl
          generalize sc[j] = aj at *
          obtain ⟨kind, fl, car, num, day, row, ltr, loc, pax⟩ := aj
          unfold Hd.av at HLg
          obtain ⟨xc, xn, xd, xr, xl⟩ := ks
          unfold Hd.K.leg at HLg
          unfold Hd.K.seat at hk2
          simp only at HLg HRj hk2
          injection hk2 with hk3 hk4
          subst hk3 hk4
          clear hk1 hks hrow hlen h0 h1
          go_enter Tryz.func4, Tryz.ntmps4
          go_wp2_with (first
            | (refine Rw.wpList_box rfl 25 _ rfl [.slice fA n fc, .slice pA n2 pc] rfl ?_; intro w1 K1 b1 z1; have HB1 := Lib.hid b1; have HK1 := Lib.hid K1; have HAw := Lib.hid (awake_any w1); clear z1 b1 K1)
            | (go_at_call 7; refine HAw.out.mono ?_; rintro e w2 ⟨rfl, hb2⟩; have HB2 := Lib.hid (HB1.out.trans (hb2.mono HB1.out.size)); have HK2 := Lib.hid (HK1.out.below' hb2); have c0 : w2.cell? ⟨W.heap.size, 0, none⟩ = some (.slice fA n fc) := HK2.out.cell 0; have c1 : w2.cell? ⟨W.heap.size, 1, none⟩ = some (.slice pA n2 pc) := HK2.out.cell 1; have HBg2 := Lib.hid (HBg.out w2 HB2.out); clear hb2)
            | (go_at_call 8; refine HBg2.out.mono ?_; rintro e w3 ⟨Bt, p, t, m, A, cap, rs', gs, rfl, hA, hpr, hgs, hBt, hb3⟩; have HB3 := Lib.hid (HB2.out.trans (hb3.mono HB2.out.size)); have HA3 := Lib.hid hA; have HK3 := Lib.hid (HK2.out.below' hb3); have hlom : W.heap.size ≤ m := Nat.le_trans HB2.out.size (Nat.le_trans hBt hA.lom); have hml := hA.map.lt; have hWw := HK2.out.lt; have hlow : W.heap.size < m := Nat.lt_of_lt_of_le hWw (Nat.le_trans hBt hA.lom); clear hA hpr hgs c0 c1 hb3 hBt))
          have HS6 : Hid (∀ w', Below w3.heap.size w3 w' → w'.cell? ⟨W.heap.size, 0, none⟩ = some (.slice fA n fc) ∧ w'.cell? ⟨W.heap.size, 1, none⟩ = some (.slice pA n2 pc) ∧ w'.cell? ⟨b, off + j * 9, none⟩ = some (.int .i64 kind) ∧ w'.cell? ⟨b, off + j * 9 + 1, none⟩ = some (.int .i64 fl) ∧ w'.cell? ⟨b, off + j * 9 + 2, none⟩ = some (.string car) ∧ w'.cell? ⟨b, off + j * 9 + 3, none⟩ = some (.int .i64 num) ∧ w'.cell? ⟨b, off + j * 9 + 4, none⟩ = some (.int .i64 day) ∧ w'.cell? ⟨b, off + j * 9 + 5, none⟩ = some (.int .i64 row) ∧ w'.cell? ⟨b, off + j * 9 + 6, none⟩ = some (.int .u8 ltr) ∧ w'.cell? ⟨b, off + j * 9 + 7, none⟩ = some (.string loc) ∧ w'.cell? ⟨b, off + j * 9 + 8, none⟩ = some (.int .i64 pax)) := fun w' hb => by
            have k1 := HK3.out.below' hb
            obtain ⟨q0, q1, q2, q3, q4, q5, q6, q7, q8⟩ := Hd.acts_cells (HRj.out w' (HB3.out.trans (hb.mono HB3.out.size)))
            exact ⟨k1.cell 0, k1.cell 1, q0, q1, q2, q3, q4, q5, q6, q7, q8⟩
          go_cut [9, 10] from 20 (fun s9 s10 wx => Hid (∃ gx gt : Nat, s9 = .pointer (some ⟨gx, 0, none⟩) ∧ s10 = .pointer (some ⟨gt, 0, none⟩) ∧ Rw.Blk wx gx 35 (Hd.encL ⟨xc, xn, xd⟩) ∧ Rw.Blk wx gt 37 [.int .i64 row, .int .u8 ltr] ∧ w3.heap.size ≤ gx ∧ w3.heap.size ≤ gt ∧ Below w3.heap.size w3 wx))
          case first =>
            as_aux_lemma =>
            refine wp_region_noPanic ?_
            refine wp_region_held_drew (S := fun w' => w'.cell? ⟨W.heap.size, 0, none⟩ = some (.slice fA n fc) ∧ w'.cell? ⟨W.heap.size, 1, none⟩ = some (.slice pA n2 pc) ∧ w'.cell? ⟨b, off + j * 9, none⟩ = some (.int .i64 kind) ∧ w'.cell? ⟨b, off + j * 9 + 1, none⟩ = some (.int .i64 fl) ∧ w'.cell? ⟨b, off + j * 9 + 2, none⟩ = some (.string car) ∧ w'.cell? ⟨b, off + j * 9 + 3, none⟩ = some (.int .i64 num) ∧ w'.cell? ⟨b, off + j * 9 + 4, none⟩ = some (.int .i64 day) ∧ w'.cell? ⟨b, off + j * 9 + 5, none⟩ = some (.int .i64 row) ∧ w'.cell? ⟨b, off + j * 9 + 6, none⟩ = some (.int .u8 ltr) ∧ w'.cell? ⟨b, off + j * 9 + 7, none⟩ = some (.string loc) ∧ w'.cell? ⟨b, off + j * 9 + 8, none⟩ = some (.int .i64 pax)) (by kernel_rfl) (HS6.out _ (Below.refl _ _).drew) (fun hHeld => ?_)
            refine wpAnyH_take (i := 0) (oi := ⟨(some 44), _, _, _, _, _⟩) (v := ?_) rfl (by kernel_rfl) (by kernel_rfl) (by kernel_rfl) (fun _ _ _ h => h) (Or.inl ⟨by rfl, ?_⟩) (by assumption) ?_
            rotate_left
            · (intro w hSw; (try dsimp only at hSw); go_simp <;> with_reducible rfl)
            try simp only [Act.put]
            try simp only [List.setIfInBounds_toArray]
            try simp only [List.set_cons_succ]
            try simp only [List.set_cons_zero]
            refine wpAnyH_take (i := 1) (oi := ⟨(some 45), _, _, _, _, _⟩) (v := ?_) rfl (by kernel_rfl) (by kernel_rfl) (by kernel_rfl) (fun _ _ _ h => h) (Or.inl ⟨by rfl, ?_⟩) (by assumption) ?_
            rotate_left
            · (intro w hSw; (try dsimp only at hSw); go_simp <;> with_reducible rfl)
            try simp only [Act.put]
            try simp only [List.setIfInBounds_toArray]
            try simp only [List.set_cons_succ]
            try simp only [List.set_cons_zero]
            refine wpAnyH_take (i := 2) (oi := ⟨(some 46), _, _, _, _, _⟩) (v := ?_) rfl (by kernel_rfl) (by kernel_rfl) (by kernel_rfl) (fun _ _ _ h => h) (Or.inl ⟨by rfl, ?_⟩) (by assumption) ?_
            rotate_left
            · (intro w hSw; (try dsimp only at hSw); go_simp <;> with_reducible rfl)
            try simp only [Act.put]
            try simp only [List.setIfInBounds_toArray]
            try simp only [List.set_cons_succ]
            try simp only [List.set_cons_zero]
            refine wpAnyH_take (i := 3) (oi := ⟨(some 47), _, _, _, _, _⟩) (v := ?_) rfl (by kernel_rfl) (by kernel_rfl) (by kernel_rfl) (fun _ _ _ h => h) (Or.inl ⟨by rfl, ?_⟩) (by assumption) ?_
            rotate_left
            · (intro w hSw; (try dsimp only at hSw); go_simp <;> with_reducible rfl)
            try simp only [Act.put]
            try simp only [List.setIfInBounds_toArray]
            try simp only [List.set_cons_succ]
            try simp only [List.set_cons_zero]
            refine wpAnyH_take (i := 4) (oi := ⟨(some 48), _, _, _, _, _⟩) (v := ?_) rfl (by kernel_rfl) (by kernel_rfl) (by kernel_rfl) (fun _ _ _ h => h) (Or.inl ⟨by rfl, ?_⟩) (by assumption) ?_
            rotate_left
            · (intro w hSw; (try dsimp only at hSw); go_simp <;> with_reducible rfl)
            try simp only [Act.put]
            try simp only [List.setIfInBounds_toArray]
            try simp only [List.set_cons_succ]
            try simp only [List.set_cons_zero]
            refine wpAnyH_take (i := 6) (oi := ⟨(some 50), _, _, _, _, _⟩) (v := ?_) rfl (by kernel_rfl) (by kernel_rfl) (by kernel_rfl) (fun _ _ _ h => h) (Or.inl ⟨by rfl, ?_⟩) (by assumption) ?_
            rotate_left
            · (intro w hSw; (try dsimp only at hSw); go_simp <;> with_reducible rfl)
            try simp only [Act.put]
            try simp only [List.setIfInBounds_toArray]
            try simp only [List.set_cons_succ]
            try simp only [List.set_cons_zero]
            refine wpAnyH_take (i := 7) (oi := ⟨(some 51), _, _, _, _, _⟩) (v := ?_) rfl (by kernel_rfl) (by kernel_rfl) (by kernel_rfl) (fun _ _ _ h => h) (Or.inl ⟨by rfl, ?_⟩) (by assumption) ?_
            rotate_left
            · (intro w hSw; (try dsimp only at hSw); go_simp <;> with_reducible rfl)
            try simp only [Act.put]
            try simp only [List.setIfInBounds_toArray]
            try simp only [List.set_cons_succ]
            try simp only [List.set_cons_zero]
            refine wpAnyH_take (i := 8) (oi := ⟨(some 52), _, _, _, _, _⟩) (v := ?_) rfl (by kernel_rfl) (by kernel_rfl) (by kernel_rfl) (fun _ _ _ h => h) (Or.inl ⟨by rfl, ?_⟩) (by assumption) ?_
            rotate_left
            · (intro w hSw; (try dsimp only at hSw); go_simp <;> with_reducible rfl)
            try simp only [Act.put]
            try simp only [List.setIfInBounds_toArray]
            try simp only [List.set_cons_succ]
            try simp only [List.set_cons_zero]
            refine wpAnyH_take (i := 9) (oi := ⟨(some 53), _, _, _, _, _⟩) (v := ?_) rfl (by kernel_rfl) (by kernel_rfl) (by kernel_rfl) (fun _ _ _ h => h) (Or.inl ⟨by rfl, ?_⟩) (by assumption) ?_
            rotate_left
            · (intro w hSw; (try dsimp only at hSw); go_simp <;> with_reducible rfl)
            try simp only [Act.put]
            try simp only [List.setIfInBounds_toArray]
            try simp only [List.set_cons_succ]
            try simp only [List.set_cons_zero]
            refine wpAnyH_take (i := 10) (oi := ⟨(some 54), _, _, _, _, _⟩) (v := ?_) rfl (by kernel_rfl) (by kernel_rfl) (by kernel_rfl) (fun _ _ _ h => h) (Or.inl ⟨by rfl, ?_⟩) (by assumption) ?_
            rotate_left
            · (intro w hSw; (try dsimp only at hSw); go_simp <;> with_reducible rfl)
            try simp only [Act.put]
            try simp only [List.setIfInBounds_toArray]
            try simp only [List.set_cons_succ]
            try simp only [List.set_cons_zero]
            refine wpAnyH_ready (rs := [5, 11, 12]) (by kernel_rfl) (by simp) ?_
            refine AllReadyH.cons (o := ⟨(some 49), _, _, _, _, _⟩) rfl (fun K hK => ?_) (AllReadyH.cons (o := ⟨(some 9), _, _, _, _, _⟩) rfl (fun K hK => ?_) (AllReadyH.cons (o := ⟨(some 10), _, _, _, _, _⟩) rfl (fun K hK => ?_) (AllReadyH.nil)))
            · go_simp
              go_at_call 9
              refine (HLg.out _ (HB3.out.trans (Below.mono ((Below.refl w3.heap.size w3).drew) HB3.out.size))).mono ?_
              rintro e wz1 ⟨rfl, hb1⟩
              have bz1 : Below w3.heap.size w3 wz1 := Below.trans ((Below.refl w3.heap.size w3).drew) (Below.mono hb1 (Nat.le_refl _))
              go_wp2_with fail
              refine hK.out _ _ ?_ (fun hHeld2 => ?_)
              · exact HS6.out _ bz1
              clear hK K
              try simp only [Act.put]
              try simp only [List.setIfInBounds_toArray]
              try simp only [List.set_cons_succ]
              try simp only [List.set_cons_zero]
              refine wpAnyH_ready (rs := [11, 12]) (by kernel_rfl) (by simp) ?_
              refine AllReadyH.cons (o := ⟨(some 9), _, _, _, _, _⟩) rfl (fun K hK => ?_) (AllReadyH.cons (o := ⟨(some 10), _, _, _, _, _⟩) rfl (fun K hK => ?_) (AllReadyH.nil))
              · refine Rw.wp_alloc 35 rfl (Hd.encL ⟨⟨#[]⟩, 0, 0⟩) Hd.zLeg ?_
                intro wz2 ka2 ba2 za2
                have bz2 : Below w3.heap.size w3 wz2 := Below.trans (bz1) (Below.mono ba2 (Below.size bz1))
                clear za2
                refine hK.out _ _ ?_ (fun hHeld2 => ?_)
                · exact HS6.out _ bz2
                clear hK K
                try simp only [Act.put]
                try simp only [List.setIfInBounds_toArray]
                try simp only [List.set_cons_succ]
                try simp only [List.set_cons_zero]
                refine wpAnyH_ready (rs := [12]) (by kernel_rfl) (by simp) ?_
                refine AllReadyH.cons (o := ⟨(some 10), _, _, _, _, _⟩) rfl (fun K hK => ?_) (AllReadyH.nil)
                refine Rw.wp_alloc 37 rfl [.int .i64 0, .int .u8 0] Pl.zSeat ?_
                intro wz3 ka3 ba3 za3
                have bz3 : Below w3.heap.size w3 wz3 := Below.trans (bz2) (Below.mono ba3 (Below.size bz2))
                clear za3
                have kz3_11 := ka2.below' ba3
                refine hK.out _ _ ?_ (fun hHeld2 => ?_)
                · exact HS6.out _ bz3
                clear hK K
                try simp only [Act.put]
                try simp only [List.setIfInBounds_toArray]
                try simp only [List.set_cons_succ]
                try simp only [List.set_cons_zero]
                refine wpAnyH_ready (rs := [13]) (by kernel_rfl) (by simp) ?_
                refine AllReadyH.cons (o := ⟨none, _, _, _, _, _⟩) rfl (fun K hK => ?_) (AllReadyH.nil)
                refine Rw.wp_store_whole 35 (.tmp 9) (.tmp 49) rfl _ rfl (Hd.encL ⟨xc, xn, xd⟩) rfl _ _ kz3_11 Hd.iLeg rfl (Hd.encL_one _) ?_
                intro wz4 ka4 fa4
                have bz4 : Below w3.heap.size w3 wz4 := Below.trans (bz3) (fa4.below (Below.size bz3) (fun k hk => Nat.le_trans (Below.size bz1) (Nat.le_of_eq hk.symm)))
                have kz4_12 := ka3.kept (fa4.block _ ka3.lt (Rw.blk_ne ka3 kz3_11 (by decide)))
                refine hK.out _ _ ?_ (fun hHeld2 => ?_)
                · exact HS6.out _ bz4
                clear hK K
                try simp only [Act.put]
                try simp only [List.setIfInBounds_toArray]
                try simp only [List.set_cons_succ]
                try simp only [List.set_cons_zero]
                refine wpAnyH_ready (rs := [14]) (by kernel_rfl) (by simp) ?_
                refine AllReadyH.cons (o := ⟨none, _, _, _, _, _⟩) rfl (fun K hK => ?_) (AllReadyH.nil)
                refine Rw.wp_store_whole 37 (.tmp 10) (.tmp 54) rfl _ rfl [.int .i64 row, .int .u8 ltr] rfl _ _ kz4_12 Pl.iSeat rfl Hd.seat1 ?_
                intro wz5 ka5 fa5
                have bz5 : Below w3.heap.size w3 wz5 := Below.trans (bz4) (fa5.below (Below.size bz4) (fun k hk => Nat.le_trans (Below.size bz2) (Nat.le_of_eq hk.symm)))
                have kz5_11 := ka4.kept (fa5.block _ ka4.lt (Rw.blk_ne ka4 kz4_12 (by decide)))
                refine hK.out _ _ ?_ (fun hHeld2 => ?_)
                · exact HS6.out _ bz5
                clear hK K
                try simp only [Act.put]
                try simp only [List.setIfInBounds_toArray]
                try simp only [List.set_cons_succ]
                try simp only [List.set_cons_zero]
                refine wpAnyH_done (by kernel_rfl) ?_ _
                refine NoPanic.normal ?_
                go_wp2
                go_meet
                exact ⟨_, _, rfl, rfl, kz5_11, ka5, (Below.size bz1), (Below.size bz2), bz5⟩
              · refine Rw.wp_alloc 37 rfl [.int .i64 0, .int .u8 0] Pl.zSeat ?_
                intro wz6 ka6 ba6 za6
                have bz6 : Below w3.heap.size w3 wz6 := Below.trans (bz1) (Below.mono ba6 (Below.size bz1))
                clear za6
                refine hK.out _ _ ?_ (fun hHeld2 => ?_)
                · exact HS6.out _ bz6
                clear hK K
                try simp only [Act.put]
                try simp only [List.setIfInBounds_toArray]
                try simp only [List.set_cons_succ]
                try simp only [List.set_cons_zero]
                refine wpAnyH_ready (rs := [11]) (by kernel_rfl) (by simp) ?_
                refine AllReadyH.cons (o := ⟨(some 9), _, _, _, _, _⟩) rfl (fun K hK => ?_) (AllReadyH.nil)
                refine Rw.wp_alloc 35 rfl (Hd.encL ⟨⟨#[]⟩, 0, 0⟩) Hd.zLeg ?_
                intro wz7 ka7 ba7 za7
                have bz7 : Below w3.heap.size w3 wz7 := Below.trans (bz6) (Below.mono ba7 (Below.size bz6))
                clear za7
                have kz7_12 := ka6.below' ba7
                refine hK.out _ _ ?_ (fun hHeld2 => ?_)
                · exact HS6.out _ bz7
                clear hK K
                try simp only [Act.put]
                try simp only [List.setIfInBounds_toArray]
                try simp only [List.set_cons_succ]
                try simp only [List.set_cons_zero]
                refine wpAnyH_ready (rs := [13]) (by kernel_rfl) (by simp) ?_
                refine AllReadyH.cons (o := ⟨none, _, _, _, _, _⟩) rfl (fun K hK => ?_) (AllReadyH.nil)
                refine Rw.wp_store_whole 35 (.tmp 9) (.tmp 49) rfl _ rfl (Hd.encL ⟨xc, xn, xd⟩) rfl _ _ ka7 Hd.iLeg rfl (Hd.encL_one _) ?_
                intro wz8 ka8 fa8
                have bz8 : Below w3.heap.size w3 wz8 := Below.trans (bz7) (fa8.below (Below.size bz7) (fun k hk => Nat.le_trans (Below.size bz6) (Nat.le_of_eq hk.symm)))
                have kz8_12 := kz7_12.kept (fa8.block _ kz7_12.lt (Rw.blk_ne kz7_12 ka7 (by decide)))
                refine hK.out _ _ ?_ (fun hHeld2 => ?_)
                · exact HS6.out _ bz8
                clear hK K
                try simp only [Act.put]
                try simp only [List.setIfInBounds_toArray]
                try simp only [List.set_cons_succ]
                try simp only [List.set_cons_zero]
                refine wpAnyH_ready (rs := [14]) (by kernel_rfl) (by simp) ?_
                refine AllReadyH.cons (o := ⟨none, _, _, _, _, _⟩) rfl (fun K hK => ?_) (AllReadyH.nil)
                refine Rw.wp_store_whole 37 (.tmp 10) (.tmp 54) rfl _ rfl [.int .i64 row, .int .u8 ltr] rfl _ _ kz8_12 Pl.iSeat rfl Hd.seat1 ?_
                intro wz9 ka9 fa9
                have bz9 : Below w3.heap.size w3 wz9 := Below.trans (bz8) (fa9.below (Below.size bz8) (fun k hk => Nat.le_trans (Below.size bz1) (Nat.le_of_eq hk.symm)))
                have kz9_11 := ka8.kept (fa9.block _ ka8.lt (Rw.blk_ne ka8 kz8_12 (by decide)))
                refine hK.out _ _ ?_ (fun hHeld2 => ?_)
                · exact HS6.out _ bz9
                clear hK K
                try simp only [Act.put]
                try simp only [List.setIfInBounds_toArray]
                try simp only [List.set_cons_succ]
                try simp only [List.set_cons_zero]
                refine wpAnyH_done (by kernel_rfl) ?_ _
                refine NoPanic.normal ?_
                go_wp2
                go_meet
                exact ⟨_, _, rfl, rfl, kz9_11, ka9, (Below.size bz6), (Below.size bz1), bz9⟩
            · refine Rw.wp_alloc 35 rfl (Hd.encL ⟨⟨#[]⟩, 0, 0⟩) Hd.zLeg ?_
              intro wz10 ka10 ba10 za10
              have bz10 : Below w3.heap.size w3 wz10 := Below.trans ((Below.refl w3.heap.size w3).drew) (Below.mono ba10 (Nat.le_refl _))
              clear za10
              refine hK.out _ _ ?_ (fun hHeld2 => ?_)
              · exact HS6.out _ bz10
              clear hK K
              try simp only [Act.put]
              try simp only [List.setIfInBounds_toArray]
              try simp only [List.set_cons_succ]
              try simp only [List.set_cons_zero]
              refine wpAnyH_ready (rs := [5, 12]) (by kernel_rfl) (by simp) ?_
              refine AllReadyH.cons (o := ⟨(some 49), _, _, _, _, _⟩) rfl (fun K hK => ?_) (AllReadyH.cons (o := ⟨(some 10), _, _, _, _, _⟩) rfl (fun K hK => ?_) (AllReadyH.nil))
              · go_simp
                go_at_call 9
                refine (HLg.out _ (HB3.out.trans (Below.mono (bz10) HB3.out.size))).mono ?_
                rintro e wz11 ⟨rfl, hb11⟩
                have bz11 : Below w3.heap.size w3 wz11 := Below.trans (bz10) (Below.mono hb11 (Below.size bz10))
                have kz11_11 := ka10.below' hb11
                go_wp2_with fail
                refine hK.out _ _ ?_ (fun hHeld2 => ?_)
                · exact HS6.out _ bz11
                clear hK K
                try simp only [Act.put]
                try simp only [List.setIfInBounds_toArray]
                try simp only [List.set_cons_succ]
                try simp only [List.set_cons_zero]
                refine wpAnyH_ready (rs := [12]) (by kernel_rfl) (by simp) ?_
                refine AllReadyH.cons (o := ⟨(some 10), _, _, _, _, _⟩) rfl (fun K hK => ?_) (AllReadyH.nil)
                refine Rw.wp_alloc 37 rfl [.int .i64 0, .int .u8 0] Pl.zSeat ?_
                intro wz12 ka12 ba12 za12
                have bz12 : Below w3.heap.size w3 wz12 := Below.trans (bz11) (Below.mono ba12 (Below.size bz11))
                clear za12
                have kz12_11 := kz11_11.below' ba12
                refine hK.out _ _ ?_ (fun hHeld2 => ?_)
                · exact HS6.out _ bz12
                clear hK K
                try simp only [Act.put]
                try simp only [List.setIfInBounds_toArray]
                try simp only [List.set_cons_succ]
                try simp only [List.set_cons_zero]
                refine wpAnyH_ready (rs := [13]) (by kernel_rfl) (by simp) ?_
                refine AllReadyH.cons (o := ⟨none, _, _, _, _, _⟩) rfl (fun K hK => ?_) (AllReadyH.nil)
                refine Rw.wp_store_whole 35 (.tmp 9) (.tmp 49) rfl _ rfl (Hd.encL ⟨xc, xn, xd⟩) rfl _ _ kz12_11 Hd.iLeg rfl (Hd.encL_one _) ?_
                intro wz13 ka13 fa13
                have bz13 : Below w3.heap.size w3 wz13 := Below.trans (bz12) (fa13.below (Below.size bz12) (fun k hk => Nat.le_trans (Nat.le_refl _) (Nat.le_of_eq hk.symm)))
                have kz13_12 := ka12.kept (fa13.block _ ka12.lt (Rw.blk_ne ka12 kz12_11 (by decide)))
                refine hK.out _ _ ?_ (fun hHeld2 => ?_)
                · exact HS6.out _ bz13
                clear hK K
                try simp only [Act.put]
                try simp only [List.setIfInBounds_toArray]
                try simp only [List.set_cons_succ]
                try simp only [List.set_cons_zero]
                refine wpAnyH_ready (rs := [14]) (by kernel_rfl) (by simp) ?_
                refine AllReadyH.cons (o := ⟨none, _, _, _, _, _⟩) rfl (fun K hK => ?_) (AllReadyH.nil)
                refine Rw.wp_store_whole 37 (.tmp 10) (.tmp 54) rfl _ rfl [.int .i64 row, .int .u8 ltr] rfl _ _ kz13_12 Pl.iSeat rfl Hd.seat1 ?_
                intro wz14 ka14 fa14
                have bz14 : Below w3.heap.size w3 wz14 := Below.trans (bz13) (fa14.below (Below.size bz13) (fun k hk => Nat.le_trans (Below.size bz11) (Nat.le_of_eq hk.symm)))
                have kz14_11 := ka13.kept (fa14.block _ ka13.lt (Rw.blk_ne ka13 kz13_12 (by decide)))
                refine hK.out _ _ ?_ (fun hHeld2 => ?_)
                · exact HS6.out _ bz14
                clear hK K
                try simp only [Act.put]
                try simp only [List.setIfInBounds_toArray]
                try simp only [List.set_cons_succ]
                try simp only [List.set_cons_zero]
                refine wpAnyH_done (by kernel_rfl) ?_ _
                refine NoPanic.normal ?_
                go_wp2
                go_meet
                exact ⟨_, _, rfl, rfl, kz14_11, ka14, (Nat.le_refl _), (Below.size bz11), bz14⟩
              · refine Rw.wp_alloc 37 rfl [.int .i64 0, .int .u8 0] Pl.zSeat ?_
                intro wz15 ka15 ba15 za15
                have bz15 : Below w3.heap.size w3 wz15 := Below.trans (bz10) (Below.mono ba15 (Below.size bz10))
                clear za15
                have kz15_11 := ka10.below' ba15
                refine hK.out _ _ ?_ (fun hHeld2 => ?_)
                · exact HS6.out _ bz15
                clear hK K
                try simp only [Act.put]
                try simp only [List.setIfInBounds_toArray]
                try simp only [List.set_cons_succ]
                try simp only [List.set_cons_zero]
                refine wpAnyH_ready (rs := [5]) (by kernel_rfl) (by simp) ?_
                refine AllReadyH.cons (o := ⟨(some 49), _, _, _, _, _⟩) rfl (fun K hK => ?_) (AllReadyH.nil)
                go_simp
                go_at_call 9
                refine (HLg.out _ (HB3.out.trans (Below.mono (bz15) HB3.out.size))).mono ?_
                rintro e wz16 ⟨rfl, hb16⟩
                have bz16 : Below w3.heap.size w3 wz16 := Below.trans (bz15) (Below.mono hb16 (Below.size bz15))
                have kz16_11 := kz15_11.below' hb16
                have kz16_12 := ka15.below' hb16
                go_wp2_with fail
                refine hK.out _ _ ?_ (fun hHeld2 => ?_)
                · exact HS6.out _ bz16
                clear hK K
                try simp only [Act.put]
                try simp only [List.setIfInBounds_toArray]
                try simp only [List.set_cons_succ]
                try simp only [List.set_cons_zero]
                refine wpAnyH_ready (rs := [13]) (by kernel_rfl) (by simp) ?_
                refine AllReadyH.cons (o := ⟨none, _, _, _, _, _⟩) rfl (fun K hK => ?_) (AllReadyH.nil)
                refine Rw.wp_store_whole 35 (.tmp 9) (.tmp 49) rfl _ rfl (Hd.encL ⟨xc, xn, xd⟩) rfl _ _ kz16_11 Hd.iLeg rfl (Hd.encL_one _) ?_
                intro wz17 ka17 fa17
                have bz17 : Below w3.heap.size w3 wz17 := Below.trans (bz16) (fa17.below (Below.size bz16) (fun k hk => Nat.le_trans (Nat.le_refl _) (Nat.le_of_eq hk.symm)))
                have kz17_12 := kz16_12.kept (fa17.block _ kz16_12.lt (Rw.blk_ne kz16_12 kz16_11 (by decide)))
                refine hK.out _ _ ?_ (fun hHeld2 => ?_)
                · exact HS6.out _ bz17
                clear hK K
                try simp only [Act.put]
                try simp only [List.setIfInBounds_toArray]
                try simp only [List.set_cons_succ]
                try simp only [List.set_cons_zero]
                refine wpAnyH_ready (rs := [14]) (by kernel_rfl) (by simp) ?_
                refine AllReadyH.cons (o := ⟨none, _, _, _, _, _⟩) rfl (fun K hK => ?_) (AllReadyH.nil)
                refine Rw.wp_store_whole 37 (.tmp 10) (.tmp 54) rfl _ rfl [.int .i64 row, .int .u8 ltr] rfl _ _ kz17_12 Pl.iSeat rfl Hd.seat1 ?_
                intro wz18 ka18 fa18
                have bz18 : Below w3.heap.size w3 wz18 := Below.trans (bz17) (fa18.below (Below.size bz17) (fun k hk => Nat.le_trans (Below.size bz10) (Nat.le_of_eq hk.symm)))
                have kz18_11 := ka17.kept (fa18.block _ ka17.lt (Rw.blk_ne ka17 kz17_12 (by decide)))
                refine hK.out _ _ ?_ (fun hHeld2 => ?_)
                · exact HS6.out _ bz18
                clear hK K
                try simp only [Act.put]
                try simp only [List.setIfInBounds_toArray]
                try simp only [List.set_cons_succ]
                try simp only [List.set_cons_zero]
                refine wpAnyH_done (by kernel_rfl) ?_ _
                refine NoPanic.normal ?_
                go_wp2
                go_meet
                exact ⟨_, _, rfl, rfl, kz18_11, ka18, (Nat.le_refl _), (Below.size bz10), bz18⟩
            · refine Rw.wp_alloc 37 rfl [.int .i64 0, .int .u8 0] Pl.zSeat ?_
              intro wz19 ka19 ba19 za19
              have bz19 : Below w3.heap.size w3 wz19 := Below.trans ((Below.refl w3.heap.size w3).drew) (Below.mono ba19 (Nat.le_refl _))
              clear za19
              refine hK.out _ _ ?_ (fun hHeld2 => ?_)
              · exact HS6.out _ bz19
              clear hK K
              try simp only [Act.put]
              try simp only [List.setIfInBounds_toArray]
              try simp only [List.set_cons_succ]
              try simp only [List.set_cons_zero]
              refine wpAnyH_ready (rs := [5, 11]) (by kernel_rfl) (by simp) ?_
              refine AllReadyH.cons (o := ⟨(some 49), _, _, _, _, _⟩) rfl (fun K hK => ?_) (AllReadyH.cons (o := ⟨(some 9), _, _, _, _, _⟩) rfl (fun K hK => ?_) (AllReadyH.nil))
              · go_simp
                go_at_call 9
                refine (HLg.out _ (HB3.out.trans (Below.mono (bz19) HB3.out.size))).mono ?_
                rintro e wz20 ⟨rfl, hb20⟩
                have bz20 : Below w3.heap.size w3 wz20 := Below.trans (bz19) (Below.mono hb20 (Below.size bz19))
                have kz20_12 := ka19.below' hb20
                go_wp2_with fail
                refine hK.out _ _ ?_ (fun hHeld2 => ?_)
                · exact HS6.out _ bz20
                clear hK K
                try simp only [Act.put]
                try simp only [List.setIfInBounds_toArray]
                try simp only [List.set_cons_succ]
                try simp only [List.set_cons_zero]
                refine wpAnyH_ready (rs := [11]) (by kernel_rfl) (by simp) ?_
                refine AllReadyH.cons (o := ⟨(some 9), _, _, _, _, _⟩) rfl (fun K hK => ?_) (AllReadyH.nil)
                refine Rw.wp_alloc 35 rfl (Hd.encL ⟨⟨#[]⟩, 0, 0⟩) Hd.zLeg ?_
                intro wz21 ka21 ba21 za21
                have bz21 : Below w3.heap.size w3 wz21 := Below.trans (bz20) (Below.mono ba21 (Below.size bz20))
                clear za21
                have kz21_12 := kz20_12.below' ba21
                refine hK.out _ _ ?_ (fun hHeld2 => ?_)
                · exact HS6.out _ bz21
                clear hK K
                try simp only [Act.put]
                try simp only [List.setIfInBounds_toArray]
                try simp only [List.set_cons_succ]
                try simp only [List.set_cons_zero]
                refine wpAnyH_ready (rs := [13]) (by kernel_rfl) (by simp) ?_
                refine AllReadyH.cons (o := ⟨none, _, _, _, _, _⟩) rfl (fun K hK => ?_) (AllReadyH.nil)
                refine Rw.wp_store_whole 35 (.tmp 9) (.tmp 49) rfl _ rfl (Hd.encL ⟨xc, xn, xd⟩) rfl _ _ ka21 Hd.iLeg rfl (Hd.encL_one _) ?_
                intro wz22 ka22 fa22
                have bz22 : Below w3.heap.size w3 wz22 := Below.trans (bz21) (fa22.below (Below.size bz21) (fun k hk => Nat.le_trans (Below.size bz20) (Nat.le_of_eq hk.symm)))
                have kz22_12 := kz21_12.kept (fa22.block _ kz21_12.lt (Rw.blk_ne kz21_12 ka21 (by decide)))
                refine hK.out _ _ ?_ (fun hHeld2 => ?_)
                · exact HS6.out _ bz22
                clear hK K
                try simp only [Act.put]
                try simp only [List.setIfInBounds_toArray]
                try simp only [List.set_cons_succ]
                try simp only [List.set_cons_zero]
                refine wpAnyH_ready (rs := [14]) (by kernel_rfl) (by simp) ?_
                refine AllReadyH.cons (o := ⟨none, _, _, _, _, _⟩) rfl (fun K hK => ?_) (AllReadyH.nil)
                refine Rw.wp_store_whole 37 (.tmp 10) (.tmp 54) rfl _ rfl [.int .i64 row, .int .u8 ltr] rfl _ _ kz22_12 Pl.iSeat rfl Hd.seat1 ?_
                intro wz23 ka23 fa23
                have bz23 : Below w3.heap.size w3 wz23 := Below.trans (bz22) (fa23.below (Below.size bz22) (fun k hk => Nat.le_trans (Nat.le_refl _) (Nat.le_of_eq hk.symm)))
                have kz23_11 := ka22.kept (fa23.block _ ka22.lt (Rw.blk_ne ka22 kz22_12 (by decide)))
                refine hK.out _ _ ?_ (fun hHeld2 => ?_)
                · exact HS6.out _ bz23
                clear hK K
                try simp only [Act.put]
                try simp only [List.setIfInBounds_toArray]
                try simp only [List.set_cons_succ]
                try simp only [List.set_cons_zero]
                refine wpAnyH_done (by kernel_rfl) ?_ _
                refine NoPanic.normal ?_
                go_wp2
                go_meet
                exact ⟨_, _, rfl, rfl, kz23_11, ka23, (Below.size bz20), (Nat.le_refl _), bz23⟩
              · refine Rw.wp_alloc 35 rfl (Hd.encL ⟨⟨#[]⟩, 0, 0⟩) Hd.zLeg ?_
                intro wz24 ka24 ba24 za24
                have bz24 : Below w3.heap.size w3 wz24 := Below.trans (bz19) (Below.mono ba24 (Below.size bz19))
                clear za24
                have kz24_12 := ka19.below' ba24
                refine hK.out _ _ ?_ (fun hHeld2 => ?_)
                · exact HS6.out _ bz24
                clear hK K
                try simp only [Act.put]
                try simp only [List.setIfInBounds_toArray]
                try simp only [List.set_cons_succ]
                try simp only [List.set_cons_zero]
                refine wpAnyH_ready (rs := [5]) (by kernel_rfl) (by simp) ?_
                refine AllReadyH.cons (o := ⟨(some 49), _, _, _, _, _⟩) rfl (fun K hK => ?_) (AllReadyH.nil)
                go_simp
                go_at_call 9
                refine (HLg.out _ (HB3.out.trans (Below.mono (bz24) HB3.out.size))).mono ?_
                rintro e wz25 ⟨rfl, hb25⟩
                have bz25 : Below w3.heap.size w3 wz25 := Below.trans (bz24) (Below.mono hb25 (Below.size bz24))
                have kz25_11 := ka24.below' hb25
                have kz25_12 := kz24_12.below' hb25
                go_wp2_with fail
                refine hK.out _ _ ?_ (fun hHeld2 => ?_)
                · exact HS6.out _ bz25
                clear hK K
                try simp only [Act.put]
                try simp only [List.setIfInBounds_toArray]
                try simp only [List.set_cons_succ]
                try simp only [List.set_cons_zero]
                refine wpAnyH_ready (rs := [13]) (by kernel_rfl) (by simp) ?_
                refine AllReadyH.cons (o := ⟨none, _, _, _, _, _⟩) rfl (fun K hK => ?_) (AllReadyH.nil)
                refine Rw.wp_store_whole 35 (.tmp 9) (.tmp 49) rfl _ rfl (Hd.encL ⟨xc, xn, xd⟩) rfl _ _ kz25_11 Hd.iLeg rfl (Hd.encL_one _) ?_
                intro wz26 ka26 fa26
                have bz26 : Below w3.heap.size w3 wz26 := Below.trans (bz25) (fa26.below (Below.size bz25) (fun k hk => Nat.le_trans (Below.size bz19) (Nat.le_of_eq hk.symm)))
                have kz26_12 := kz25_12.kept (fa26.block _ kz25_12.lt (Rw.blk_ne kz25_12 kz25_11 (by decide)))
                refine hK.out _ _ ?_ (fun hHeld2 => ?_)
                · exact HS6.out _ bz26
                clear hK K
                try simp only [Act.put]
                try simp only [List.setIfInBounds_toArray]
                try simp only [List.set_cons_succ]
                try simp only [List.set_cons_zero]
                refine wpAnyH_ready (rs := [14]) (by kernel_rfl) (by simp) ?_
                refine AllReadyH.cons (o := ⟨none, _, _, _, _, _⟩) rfl (fun K hK => ?_) (AllReadyH.nil)
                refine Rw.wp_store_whole 37 (.tmp 10) (.tmp 54) rfl _ rfl [.int .i64 row, .int .u8 ltr] rfl _ _ kz26_12 Pl.iSeat rfl Hd.seat1 ?_
                intro wz27 ka27 fa27
                have bz27 : Below w3.heap.size w3 wz27 := Below.trans (bz26) (fa27.below (Below.size bz26) (fun k hk => Nat.le_trans (Nat.le_refl _) (Nat.le_of_eq hk.symm)))
                have kz27_11 := ka26.kept (fa27.block _ ka26.lt (Rw.blk_ne ka26 kz26_12 (by decide)))
                refine hK.out _ _ ?_ (fun hHeld2 => ?_)
                · exact HS6.out _ bz27
                clear hK K
                try simp only [Act.put]
                try simp only [List.setIfInBounds_toArray]
                try simp only [List.set_cons_succ]
                try simp only [List.set_cons_zero]
                refine wpAnyH_done (by kernel_rfl) ?_ _
                refine NoPanic.normal ?_
                go_wp2
                go_meet
                exact ⟨_, _, rfl, rfl, kz27_11, ka27, (Below.size bz19), (Nat.le_refl _), bz27⟩
          case rest =>
            obtain ⟨wb, ewb⟩ : ∃ wb, wb = wc := ⟨_, rfl⟩
            subst ewb
            obtain ⟨gx, gt, rfl, rfl, hKx, hKt, hgx, hgt, hb⟩ := hcut.out
            have HA4 := Lib.hid (HA3.out.kept hb)
            have HK4 := Lib.hid (HK3.out.below' hb)
            have HB4 := Lib.hid (HB3.out.trans (hb.mono HB3.out.size))
            have HKx := Lib.hid hKx
            have HKt := Lib.hid hKt
            have hs34 := hb.size
            have hglx := hKx.lt
            have hglt := hKt.lt
            clear hcut hKx hKt hb HS6 HA3 HK3 HB3 HBg HAw HRj HSc
            go_wp2_with (first
              | (refine Rw.wpList_alloc rfl 39 rfl [.string ⟨#[]⟩, .int .i64 0] Hd.zH ?_; intro w5 K5 b5 z5; have HKo := Lib.hid K5; have HA5 := Lib.hid (HA4.out.kept b5); have HK5 := Lib.hid (HK4.out.below' b5); have HKx5 := Lib.hid (HKx.out.below' b5); have HKt5 := Lib.hid (HKt.out.below' b5); have HB5 := Lib.hid (HB4.out.trans (b5.mono HB4.out.size)); clear K5 b5 z5))
            obtain ⟨go, hgo⟩ : ∃ g, g = wb.heap.size := ⟨_, rfl⟩
            rw [← hgo] at HKo ⊢
            have hWgo : W.heap.size ≤ go := by have := HB4.out.size; omega
            have hmgo : m < go := by omega
            have hxgo : gx < go := by omega
            have htgo : gt < go := by omega
            have hWlgo : W.heap.size < go := by have := HK4.out.lt; omega
            have hWx : W.heap.size < gx := by omega
            have hWt : W.heap.size < gt := by omega
            have hmx : m < gx := by omega
            have hmt : m < gt := by omega
            clear hgo HKx HKt HA4 HK4 HB4
            go_loopw [12, 13] (fun s12 s13 wr => ∃ (k : Nat) (l : List (Hd.K × Hd.H)) (ow : Hd.H), k ≤ sc.length ∧ s12 = .bool (Hd.who l ⟨xc, xn, xd, row, ltr⟩).isSome ∧ s13 = .int .i64 k ∧ Hid (Hd.At wr Bt p t m A cap rs' gs l) ∧ Hid (Rw.Blk wr go 39 [.string ow.loc, .int .i64 ow.pax]) ∧ Hid (∀ h, Hd.who l ⟨xc, xn, xd, row, ltr⟩ = some h → ow = h) ∧ Hid (Rw.Blk wr W.heap.size 25 [.slice fA n fc, .slice pA n2 pc]) ∧ Hid (Rw.Blk wr gx 35 (Hd.encL ⟨xc, xn, xd⟩)) ∧ Hid (Rw.Blk wr gt 37 [.int .i64 row, .int .u8 ltr]) ∧ Hid (Below W.heap.size W wr)) (fun _ i _ => sc.length - (intOf i).toNat)
            case atStart => exact ⟨0, [], Hd.h0, by omega, rfl, rfl, HA5, HKo, fun h hh => by simp [Hd.who] at hh, HK5, HKx5, HKt5, HB5⟩
            case round =>
              obtain ⟨wx, ewx⟩ : ∃ x, x = wr := ⟨_, rfl⟩
              subst ewx
              obtain ⟨k, l, ow, hk, rfl, rfl, HA, HKo, HOw, HK, HKx, HKt, HB⟩ := hrel
              have hsx := HB.out.size
              by_cases hlt : k < sc.length
              · have HRk := Lib.hid (HRow.out k hlt)
                have HOk := Lib.hid (HOks.out _ (List.getElem_mem hlt))
                generalize sc[k] = a at *
                have HLg := Lib.hid (HLgA.out a HOk.out)
                have HKa := Lib.hid (HKO.out a HOk.out)
                obtain ⟨kk, hkk⟩ : ∃ y, y = Hd.legOf rs a := ⟨_, rfl⟩
                unfold Hd.keyOf at HKa
                rw [← hkk] at HLg HKa
                obtain ⟨kc, kn, kd⟩ := kk
                obtain ⟨ak, af, ac, an, ad, ar, al, aloc, apax⟩ := a
                unfold Hd.av at HLg
                simp only at HLg HKa HRk
                obtain ⟨q0, q1, q2, q3, q4, q5, q6, q7, q8⟩ := Hd.acts_cells (HRk.out wx HB.out)
                clear hkk HOk
                go_wp2_with (first
                  | (refine Rw.wpList_alloc rfl 41 rfl (Hd.acs ⟨0, 0, ⟨#[]⟩, 0, 0, 0, 0, ⟨#[]⟩, 0⟩) Hd.zAct ?_; intro w4 K4 b4 z4; clear z4)
                  | (refine Rw.wpList_store_whole rfl 41 _ _ rfl wx.heap.size rfl (Hd.acs ⟨ak, af, ac, an, ad, ar, al, aloc, apax⟩) rfl _ _ K4 Hd.iAct rfl (Hd.acs_one _) ?_; intro w5 K5 f5; have HB45 : Hid (Below wx.heap.size wx w5) := b4.trans (f5.below b4.size (fun k hk => Nat.le_of_eq hk.symm)); have HK5 := Lib.hid K5; clear K5 f5))
                have hgal := HK5.out.lt
                have hxl : gx < wx.heap.size := HKx.out.lt
                have htl : gt < wx.heap.size := HKt.out.lt
                have hol : go < wx.heap.size := HKo.out.lt
                have hWl : W.heap.size < wx.heap.size := HK.out.lt
                obtain ⟨ga, hga⟩ : ∃ g, g = wx.heap.size := ⟨_, rfl⟩
                have HA5 := Lib.hid (HA.out.kept HB45.out)
                have HKy5 := Lib.hid (HK.out.below' HB45.out)
                have HKx5 := Lib.hid (HKx.out.below' HB45.out)
                have HKt5 := Lib.hid (HKt.out.below' HB45.out)
                have HKo5 := Lib.hid (HKo.out.below' HB45.out)
                have HB5 := Lib.hid (HB.out.trans (HB45.out.mono hsx))
                have hs5 := HB5.out.size
                rw [← hga] at HK5 hgal hxl htl hol hWl ⊢
                have HS : Hid (∀ w', Rw.Fr (· = m) w5 w' → w'.cell? ⟨W.heap.size, 0, none⟩ = some (.slice fA n fc) ∧ w'.cell? ⟨W.heap.size, 1, none⟩ = some (.slice pA n2 pc) ∧ w'.cell? ⟨ga, 0, none⟩ = some (.int .i64 ak) ∧ w'.cell? ⟨ga, 1, none⟩ = some (.int .i64 af) ∧ w'.cell? ⟨ga, 2, none⟩ = some (.string ac) ∧ w'.cell? ⟨ga, 3, none⟩ = some (.int .i64 an) ∧ w'.cell? ⟨ga, 4, none⟩ = some (.int .i64 ad) ∧ w'.cell? ⟨ga, 5, none⟩ = some (.int .i64 ar) ∧ w'.cell? ⟨ga, 6, none⟩ = some (.int .u8 al) ∧ w'.cell? ⟨ga, 7, none⟩ = some (.string aloc) ∧ w'.cell? ⟨ga, 8, none⟩ = some (.int .i64 apax) ∧ w'.cell? ⟨gx, 0, none⟩ = some (.string xc) ∧ w'.cell? ⟨gx, 1, none⟩ = some (.int .i64 xn) ∧ w'.cell? ⟨gx, 2, none⟩ = some (.int .i64 xd) ∧ w'.cell? ⟨gt, 0, none⟩ = some (.int .i64 row) ∧ w'.cell? ⟨gt, 1, none⟩ = some (.int .u8 ltr)) := fun w' hf => by
                  have ky := HKy5.out.kept (hf.block _ HKy5.out.lt (show ¬ (W.heap.size = m) by omega))
                  have ka := HK5.out.kept (hf.block _ HK5.out.lt (show ¬ (ga = m) by omega))
                  have kx := HKx5.out.kept (hf.block _ HKx5.out.lt (show ¬ (gx = m) by omega))
                  have kt := HKt5.out.kept (hf.block _ HKt5.out.lt (show ¬ (gt = m) by omega))
                  exact ⟨ky.cell 0, ky.cell 1, ka.cell 0, ka.cell 1, ka.cell 2, ka.cell 3, ka.cell 4, ka.cell 5, ka.cell 6, ka.cell 7, ka.cell 8, kx.cell 0, kx.cell 1, kx.cell 2, kt.cell 0, kt.cell 1⟩
                have HKoF : Hid (∀ w', Rw.Fr (· = m) w5 w' → Rw.Blk w' go 39 [.string ow.loc, .int .i64 ow.pax]) := fun w' hf => HKo5.out.kept (hf.block _ HKo5.out.lt (show ¬ (go = m) by omega))
                have HKxF : Hid (∀ w', Rw.Fr (· = m) w5 w' → Rw.Blk w' W.heap.size 25 [.slice fA n fc, .slice pA n2 pc] ∧ Rw.Blk w' gx 35 (Hd.encL ⟨xc, xn, xd⟩) ∧ Rw.Blk w' gt 37 [.int .i64 row, .int .u8 ltr]) := fun w' hf => ⟨HKy5.out.kept (hf.block _ HKy5.out.lt (show ¬ (W.heap.size = m) by omega)), HKx5.out.kept (hf.block _ HKx5.out.lt (show ¬ (gx = m) by omega)), HKt5.out.kept (hf.block _ HKt5.out.lt (show ¬ (gt = m) by omega))⟩
                have HBF : Hid (∀ w', Rw.Fr (· = m) w5 w' → Below W.heap.size W w') := fun w' hf => HB5.out.trans (hf.below hs5 (fun k hk => by have : k = m := hk; omega))
                have HLg5 := Lib.hid (HLg.out _ HB5.out.drew)
                clear q0 q1 q2 q3 q4 q5 q6 q7 q8 HA HK HKx HKt HKo HKy5 HKx5 HKt5 HKo5 HB45 HB hga HRk b4 K4
                go_cut [15] from 55 to 160 (fun s15 wc => Hid (s15 = .bool (decide ((Hd.mk ⟨kc, kn, kd⟩ (ar, al)) = ⟨xc, xn, xd, row, ltr⟩)) ∧ Below w5.heap.size w5 wc))
                case first =>
                  by_cases e1 : kc = xc
                  · subst e1
                    by_cases e2 : kn = xn
                    · subst e2
                      by_cases e3 : kd = xd
                      · subst e3
                        by_cases e4 : ar = row
                        · subst e4
                          by_cases e5 : al = ltr
                          · subst e5
                            have HM : Hid (Value.bool true = .bool (decide ((Hd.mk ⟨kc, kn, kd⟩ (ar, al)) = ⟨kc, kn, kd, ar, al⟩))) := show _ = _ by simp [Hd.mk]
                            refine wp_region_noPanic ?_
                            refine wp_region_held_drew (S := fun w' => w'.cell? ⟨W.heap.size, 0, none⟩ = some (.slice fA n fc) ∧ w'.cell? ⟨W.heap.size, 1, none⟩ = some (.slice pA n2 pc) ∧ w'.cell? ⟨ga, 0, none⟩ = some (.int .i64 ak) ∧ w'.cell? ⟨ga, 1, none⟩ = some (.int .i64 af) ∧ w'.cell? ⟨ga, 2, none⟩ = some (.string ac) ∧ w'.cell? ⟨ga, 3, none⟩ = some (.int .i64 an) ∧ w'.cell? ⟨ga, 4, none⟩ = some (.int .i64 ad) ∧ w'.cell? ⟨ga, 5, none⟩ = some (.int .i64 ar) ∧ w'.cell? ⟨ga, 6, none⟩ = some (.int .u8 al) ∧ w'.cell? ⟨ga, 7, none⟩ = some (.string aloc) ∧ w'.cell? ⟨ga, 8, none⟩ = some (.int .i64 apax) ∧ w'.cell? ⟨gx, 0, none⟩ = some (.string kc) ∧ w'.cell? ⟨gx, 1, none⟩ = some (.int .i64 kn) ∧ w'.cell? ⟨gx, 2, none⟩ = some (.int .i64 kd) ∧ w'.cell? ⟨gt, 0, none⟩ = some (.int .i64 ar) ∧ w'.cell? ⟨gt, 1, none⟩ = some (.int .u8 al)) (by kernel_rfl) (HS.out _ (Rw.Fr.of_below (Below.refl _ _).drew)) (fun hHeld => ?_)
                            refine wpAnyH_take (i := 0) (oi := ⟨(some 65), _, _, _, _, _⟩) (v := ?_) rfl (by kernel_rfl) (by kernel_rfl) (by kernel_rfl) (fun _ _ _ h => h) (Or.inl ⟨by rfl, ?_⟩) (by assumption) ?_
                            rotate_left
                            · (intro w hSw; (try dsimp only at hSw); go_simp <;> with_reducible rfl)
                            try simp only [Act.put]
                            try simp only [List.setIfInBounds_toArray]
                            try simp only [List.set_cons_succ]
                            try simp only [List.set_cons_zero]
                            refine wpAnyH_take (i := 1) (oi := ⟨(some 66), _, _, _, _, _⟩) (v := ?_) rfl (by kernel_rfl) (by kernel_rfl) (by kernel_rfl) (fun _ _ _ h => h) (Or.inl ⟨by rfl, ?_⟩) (by assumption) ?_
                            rotate_left
                            · (intro w hSw; (try dsimp only at hSw); go_simp <;> with_reducible rfl)
                            try simp only [Act.put]
                            try simp only [List.setIfInBounds_toArray]
                            try simp only [List.set_cons_succ]
                            try simp only [List.set_cons_zero]
                            refine wpAnyH_take (i := 3) (oi := ⟨(some 68), _, _, _, _, _⟩) (v := ?_) rfl (by kernel_rfl) (by kernel_rfl) (by kernel_rfl) (fun _ _ _ h => h) (Or.inl ⟨by rfl, ?_⟩) (by assumption) ?_
                            rotate_left
                            · (intro w hSw; (try dsimp only at hSw); go_simp <;> with_reducible rfl)
                            try simp only [Act.put]
                            try simp only [List.setIfInBounds_toArray]
                            try simp only [List.set_cons_succ]
                            try simp only [List.set_cons_zero]
                            refine wpAnyH_ready (rs := [2]) (by kernel_rfl) (by simp) ?_
                            refine AllReadyH.cons (o := ⟨(some 67), _, _, _, _, _⟩) rfl (fun K hK => ?_) (AllReadyH.nil)
                            go_simp
                            go_at_call 9
                            refine HLg5.out.mono ?_
                            rintro e w6 ⟨rfl, hb6⟩
                            have hb56 : Below w5.heap.size w5 w6 := (Below.refl w5.heap.size w5).drew.trans hb6
                            go_wp2_with fail
                            refine hK.out _ _ ?_ (fun hHeld2 => ?_)
                            · exact HS.out _ (Rw.Fr.of_below hb56)
                            clear hK K
                            try simp only [Act.put]
                            try simp only [List.setIfInBounds_toArray]
                            try simp only [List.set_cons_succ]
                            try simp only [List.set_cons_zero]
                            refine wpAnyH_take (i := 4) (oi := ⟨(some 69), _, _, _, _, _⟩) (v := ?_) rfl (by kernel_rfl) (by kernel_rfl) (by kernel_rfl) (fun _ _ _ h => h) (Or.inl ⟨by rfl, ?_⟩) (by assumption) ?_
                            rotate_left
                            · (intro w hSw; (try dsimp only at hSw); go_simp <;> with_reducible rfl)
                            try simp only [Act.put]
                            try simp only [List.setIfInBounds_toArray]
                            try simp only [List.set_cons_succ]
                            try simp only [List.set_cons_zero]
                            refine wpAnyH_take (i := 5) (oi := ⟨(some 70), _, _, _, _, _⟩) (v := ?_) rfl (by kernel_rfl) (by kernel_rfl) (by kernel_rfl) (fun _ _ _ h => h) (Or.inl ⟨by rfl, ?_⟩) (by assumption) ?_
                            rotate_left
                            · (intro w hSw; (try dsimp only at hSw); go_simp <;> with_reducible rfl)
                            try simp only [Act.put]
                            try simp only [List.setIfInBounds_toArray]
                            try simp only [List.set_cons_succ]
                            try simp only [List.set_cons_zero]
                            refine wpAnyH_take (i := 6) (oi := ⟨(some 71), _, _, _, _, _⟩) (v := ?_) rfl (by kernel_rfl) (by kernel_rfl) (by kernel_rfl) (fun _ _ _ h => h) (Or.inl ⟨by rfl, ?_⟩) (by assumption) ?_
                            rotate_left
                            · (intro w hSw; (try dsimp only at hSw); go_simp <;> with_reducible rfl)
                            try simp only [Act.put]
                            try simp only [List.setIfInBounds_toArray]
                            try simp only [List.set_cons_succ]
                            try simp only [List.set_cons_zero]
                            refine wpAnyH_take (i := 7) (oi := ⟨(some 72), _, _, _, _, _⟩) (v := ?_) rfl (by kernel_rfl) (by kernel_rfl) (by kernel_rfl) (fun _ _ _ h => h) (Or.inl ⟨by rfl, ?_⟩) (by assumption) ?_
                            rotate_left
                            · (intro w hSw; (try dsimp only at hSw); go_simp <;> with_reducible rfl)
                            try simp only [Act.put]
                            try simp only [List.setIfInBounds_toArray]
                            try simp only [List.set_cons_succ]
                            try simp only [List.set_cons_zero]
                            refine wpAnyH_take (i := 8) (oi := ⟨(some 73), _, _, _, _, _⟩) (v := ?_) rfl (by kernel_rfl) (by kernel_rfl) (by kernel_rfl) (fun _ _ _ h => h) (Or.inl ⟨by rfl, ?_⟩) (by assumption) ?_
                            rotate_left
                            · (intro w hSw; (try dsimp only at hSw); go_simp <;> with_reducible rfl)
                            try simp only [Act.put]
                            try simp only [List.setIfInBounds_toArray]
                            try simp only [List.set_cons_succ]
                            try simp only [List.set_cons_zero]
                            refine wpAnyH_take (i := 9) (oi := ⟨(some 74), _, _, _, _, _⟩) (v := ?_) rfl (by kernel_rfl) (by kernel_rfl) (by kernel_rfl) (fun _ _ _ h => h) (Or.inl ⟨by rfl, ?_⟩) (by assumption) ?_
                            rotate_left
                            · (intro w hSw; (try dsimp only at hSw); go_simp <;> with_reducible rfl)
                            try simp only [Act.put]
                            try simp only [List.setIfInBounds_toArray]
                            try simp only [List.set_cons_succ]
                            try simp only [List.set_cons_zero]
                            refine wpAnyH_take (i := 10) (oi := ⟨(some 75), _, _, _, _, _⟩) (v := ?_) rfl (by kernel_rfl) (by kernel_rfl) (by kernel_rfl) (fun _ _ _ h => h) (Or.inl ⟨by rfl, ?_⟩) (by assumption) ?_
                            rotate_left
                            · (intro w hSw; (try dsimp only at hSw); go_simp <;> with_reducible rfl)
                            try simp only [Act.put]
                            try simp only [List.setIfInBounds_toArray]
                            try simp only [List.set_cons_succ]
                            try simp only [List.set_cons_zero]
                            refine wpAnyH_take (i := 11) (oi := ⟨(some 15), _, _, _, _, _⟩) (v := ?_) rfl (by kernel_rfl) (by kernel_rfl) (by kernel_rfl) (fun _ _ _ h => h) (Or.inl ⟨by rfl, ?_⟩) (by assumption) ?_
                            rotate_left
                            · (intro w hSw; (try dsimp only at hSw); go_simp <;> with_reducible rfl)
                            try simp only [Act.put]
                            try simp only [List.setIfInBounds_toArray]
                            try simp only [List.set_cons_succ]
                            try simp only [List.set_cons_zero]
                            refine wpAnyH_done (by kernel_rfl) ?_ _
                            refine NoPanic.normal ?_
                            go_wp2
                            go_meet
                            exact ⟨HM.out, hb56⟩
                          · have HM : Hid (Value.bool false = .bool (decide ((Hd.mk ⟨kc, kn, kd⟩ (ar, al)) = ⟨kc, kn, kd, ar, ltr⟩))) := show _ = _ by simp [Hd.mk, e5]
                            have hh1 : (al == ltr) = false := by simpa using e5
                            clear e5
                            refine wp_region_noPanic ?_
                            refine wp_region_held_drew (S := fun w' => w'.cell? ⟨W.heap.size, 0, none⟩ = some (.slice fA n fc) ∧ w'.cell? ⟨W.heap.size, 1, none⟩ = some (.slice pA n2 pc) ∧ w'.cell? ⟨ga, 0, none⟩ = some (.int .i64 ak) ∧ w'.cell? ⟨ga, 1, none⟩ = some (.int .i64 af) ∧ w'.cell? ⟨ga, 2, none⟩ = some (.string ac) ∧ w'.cell? ⟨ga, 3, none⟩ = some (.int .i64 an) ∧ w'.cell? ⟨ga, 4, none⟩ = some (.int .i64 ad) ∧ w'.cell? ⟨ga, 5, none⟩ = some (.int .i64 ar) ∧ w'.cell? ⟨ga, 6, none⟩ = some (.int .u8 al) ∧ w'.cell? ⟨ga, 7, none⟩ = some (.string aloc) ∧ w'.cell? ⟨ga, 8, none⟩ = some (.int .i64 apax) ∧ w'.cell? ⟨gx, 0, none⟩ = some (.string kc) ∧ w'.cell? ⟨gx, 1, none⟩ = some (.int .i64 kn) ∧ w'.cell? ⟨gx, 2, none⟩ = some (.int .i64 kd) ∧ w'.cell? ⟨gt, 0, none⟩ = some (.int .i64 ar) ∧ w'.cell? ⟨gt, 1, none⟩ = some (.int .u8 ltr)) (by kernel_rfl) (HS.out _ (Rw.Fr.of_below (Below.refl _ _).drew)) (fun hHeld => ?_)
                            refine wpAnyH_take (i := 0) (oi := ⟨(some 65), _, _, _, _, _⟩) (v := ?_) rfl (by kernel_rfl) (by kernel_rfl) (by kernel_rfl) (fun _ _ _ h => h) (Or.inl ⟨by rfl, ?_⟩) (by assumption) ?_
                            rotate_left
                            · (intro w hSw; (try dsimp only at hSw); go_simp <;> with_reducible rfl)
                            try simp only [Act.put]
                            try simp only [List.setIfInBounds_toArray]
                            try simp only [List.set_cons_succ]
                            try simp only [List.set_cons_zero]
                            refine wpAnyH_take (i := 1) (oi := ⟨(some 66), _, _, _, _, _⟩) (v := ?_) rfl (by kernel_rfl) (by kernel_rfl) (by kernel_rfl) (fun _ _ _ h => h) (Or.inl ⟨by rfl, ?_⟩) (by assumption) ?_
                            rotate_left
                            · (intro w hSw; (try dsimp only at hSw); go_simp <;> with_reducible rfl)
                            try simp only [Act.put]
                            try simp only [List.setIfInBounds_toArray]
                            try simp only [List.set_cons_succ]
                            try simp only [List.set_cons_zero]
                            refine wpAnyH_take (i := 3) (oi := ⟨(some 68), _, _, _, _, _⟩) (v := ?_) rfl (by kernel_rfl) (by kernel_rfl) (by kernel_rfl) (fun _ _ _ h => h) (Or.inl ⟨by rfl, ?_⟩) (by assumption) ?_
                            rotate_left
                            · (intro w hSw; (try dsimp only at hSw); go_simp <;> with_reducible rfl)
                            try simp only [Act.put]
                            try simp only [List.setIfInBounds_toArray]
                            try simp only [List.set_cons_succ]
                            try simp only [List.set_cons_zero]
                            refine wpAnyH_ready (rs := [2]) (by kernel_rfl) (by simp) ?_
                            refine AllReadyH.cons (o := ⟨(some 67), _, _, _, _, _⟩) rfl (fun K hK => ?_) (AllReadyH.nil)
                            go_simp
                            go_at_call 9
                            refine HLg5.out.mono ?_
                            rintro e w6 ⟨rfl, hb6⟩
                            have hb56 : Below w5.heap.size w5 w6 := (Below.refl w5.heap.size w5).drew.trans hb6
                            go_wp2_with fail
                            refine hK.out _ _ ?_ (fun hHeld2 => ?_)
                            · exact HS.out _ (Rw.Fr.of_below hb56)
                            clear hK K
                            try simp only [Act.put]
                            try simp only [List.setIfInBounds_toArray]
                            try simp only [List.set_cons_succ]
                            try simp only [List.set_cons_zero]
                            refine wpAnyH_take (i := 4) (oi := ⟨(some 69), _, _, _, _, _⟩) (v := ?_) rfl (by kernel_rfl) (by kernel_rfl) (by kernel_rfl) (fun _ _ _ h => h) (Or.inl ⟨by rfl, ?_⟩) (by assumption) ?_
                            rotate_left
                            · (intro w hSw; (try dsimp only at hSw); go_simp <;> with_reducible rfl)
                            try simp only [Act.put]
                            try simp only [List.setIfInBounds_toArray]
                            try simp only [List.set_cons_succ]
                            try simp only [List.set_cons_zero]
                            refine wpAnyH_take (i := 5) (oi := ⟨(some 70), _, _, _, _, _⟩) (v := ?_) rfl (by kernel_rfl) (by kernel_rfl) (by kernel_rfl) (fun _ _ _ h => h) (Or.inl ⟨by rfl, ?_⟩) (by assumption) ?_
                            rotate_left
                            · (intro w hSw; (try dsimp only at hSw); go_simp <;> with_reducible rfl)
                            try simp only [Act.put]
                            try simp only [List.setIfInBounds_toArray]
                            try simp only [List.set_cons_succ]
                            try simp only [List.set_cons_zero]
                            refine wpAnyH_take (i := 6) (oi := ⟨(some 71), _, _, _, _, _⟩) (v := ?_) rfl (by kernel_rfl) (by kernel_rfl) (by kernel_rfl) (fun _ _ _ h => h) (Or.inl ⟨by rfl, ?_⟩) (by assumption) ?_
                            rotate_left
                            · (intro w hSw; (try dsimp only at hSw); go_simp <;> with_reducible rfl)
                            try simp only [Act.put]
                            try simp only [List.setIfInBounds_toArray]
                            try simp only [List.set_cons_succ]
                            try simp only [List.set_cons_zero]
                            refine wpAnyH_take (i := 7) (oi := ⟨(some 72), _, _, _, _, _⟩) (v := ?_) rfl (by kernel_rfl) (by kernel_rfl) (by kernel_rfl) (fun _ _ _ h => h) (Or.inl ⟨by rfl, ?_⟩) (by assumption) ?_
                            rotate_left
                            · (intro w hSw; (try dsimp only at hSw); go_simp <;> with_reducible rfl)
                            try simp only [Act.put]
                            try simp only [List.setIfInBounds_toArray]
                            try simp only [List.set_cons_succ]
                            try simp only [List.set_cons_zero]
                            refine wpAnyH_take (i := 8) (oi := ⟨(some 73), _, _, _, _, _⟩) (v := ?_) rfl (by kernel_rfl) (by kernel_rfl) (by kernel_rfl) (fun _ _ _ h => h) (Or.inl ⟨by rfl, ?_⟩) (by assumption) ?_
                            rotate_left
                            · (intro w hSw; (try dsimp only at hSw); go_simp <;> with_reducible rfl)
                            try simp only [Act.put]
                            try simp only [List.setIfInBounds_toArray]
                            try simp only [List.set_cons_succ]
                            try simp only [List.set_cons_zero]
                            refine wpAnyH_take (i := 9) (oi := ⟨(some 74), _, _, _, _, _⟩) (v := ?_) rfl (by kernel_rfl) (by kernel_rfl) (by kernel_rfl) (fun _ _ _ h => h) (Or.inl ⟨by rfl, ?_⟩) (by assumption) ?_
                            rotate_left
                            · (intro w hSw; (try dsimp only at hSw); go_simp <;> with_reducible rfl)
                            try simp only [Act.put]
                            try simp only [List.setIfInBounds_toArray]
                            try simp only [List.set_cons_succ]
                            try simp only [List.set_cons_zero]
                            refine wpAnyH_take (i := 10) (oi := ⟨(some 75), _, _, _, _, _⟩) (v := ?_) rfl (by kernel_rfl) (by kernel_rfl) (by kernel_rfl) (fun _ _ _ h => h) (Or.inl ⟨by rfl, ?_⟩) (by assumption) ?_
                            rotate_left
                            · (intro w hSw; (try dsimp only at hSw); go_simp <;> with_reducible rfl)
                            try simp only [Act.put]
                            try simp only [List.setIfInBounds_toArray]
                            try simp only [List.set_cons_succ]
                            try simp only [List.set_cons_zero]
                            refine wpAnyH_take (i := 11) (oi := ⟨(some 15), _, _, _, _, _⟩) (v := ?_) rfl (by kernel_rfl) (by kernel_rfl) (by kernel_rfl) (fun _ _ _ h => h) (Or.inl ⟨by rfl, ?_⟩) (by assumption) ?_
                            rotate_left
                            · (intro w hSw; (try dsimp only at hSw); go_simp <;> with_reducible rfl)
                            try simp only [Act.put]
                            try simp only [List.setIfInBounds_toArray]
                            try simp only [List.set_cons_succ]
                            try simp only [List.set_cons_zero]
                            refine wpAnyH_done (by kernel_rfl) ?_ _
                            refine NoPanic.normal ?_
                            go_wp2
                            go_meet
                            exact ⟨HM.out, hb56⟩
                        · have HM : Hid (Value.bool false = .bool (decide ((Hd.mk ⟨kc, kn, kd⟩ (ar, al)) = ⟨kc, kn, kd, row, ltr⟩))) := show _ = _ by simp [Hd.mk, e4]
                          have hh1 : (ar == row) = false := by simpa using e4
                          clear e4
                          refine wp_region_noPanic ?_
                          refine wp_region_held_drew (S := fun w' => w'.cell? ⟨W.heap.size, 0, none⟩ = some (.slice fA n fc) ∧ w'.cell? ⟨W.heap.size, 1, none⟩ = some (.slice pA n2 pc) ∧ w'.cell? ⟨ga, 0, none⟩ = some (.int .i64 ak) ∧ w'.cell? ⟨ga, 1, none⟩ = some (.int .i64 af) ∧ w'.cell? ⟨ga, 2, none⟩ = some (.string ac) ∧ w'.cell? ⟨ga, 3, none⟩ = some (.int .i64 an) ∧ w'.cell? ⟨ga, 4, none⟩ = some (.int .i64 ad) ∧ w'.cell? ⟨ga, 5, none⟩ = some (.int .i64 ar) ∧ w'.cell? ⟨ga, 6, none⟩ = some (.int .u8 al) ∧ w'.cell? ⟨ga, 7, none⟩ = some (.string aloc) ∧ w'.cell? ⟨ga, 8, none⟩ = some (.int .i64 apax) ∧ w'.cell? ⟨gx, 0, none⟩ = some (.string kc) ∧ w'.cell? ⟨gx, 1, none⟩ = some (.int .i64 kn) ∧ w'.cell? ⟨gx, 2, none⟩ = some (.int .i64 kd) ∧ w'.cell? ⟨gt, 0, none⟩ = some (.int .i64 row) ∧ w'.cell? ⟨gt, 1, none⟩ = some (.int .u8 ltr)) (by kernel_rfl) (HS.out _ (Rw.Fr.of_below (Below.refl _ _).drew)) (fun hHeld => ?_)
                          refine wpAnyH_take (i := 0) (oi := ⟨(some 65), _, _, _, _, _⟩) (v := ?_) rfl (by kernel_rfl) (by kernel_rfl) (by kernel_rfl) (fun _ _ _ h => h) (Or.inl ⟨by rfl, ?_⟩) (by assumption) ?_
                          rotate_left
                          · (intro w hSw; (try dsimp only at hSw); go_simp <;> with_reducible rfl)
                          try simp only [Act.put]
                          try simp only [List.setIfInBounds_toArray]
                          try simp only [List.set_cons_succ]
                          try simp only [List.set_cons_zero]
                          refine wpAnyH_take (i := 1) (oi := ⟨(some 66), _, _, _, _, _⟩) (v := ?_) rfl (by kernel_rfl) (by kernel_rfl) (by kernel_rfl) (fun _ _ _ h => h) (Or.inl ⟨by rfl, ?_⟩) (by assumption) ?_
                          rotate_left
                          · (intro w hSw; (try dsimp only at hSw); go_simp <;> with_reducible rfl)
                          try simp only [Act.put]
                          try simp only [List.setIfInBounds_toArray]
                          try simp only [List.set_cons_succ]
                          try simp only [List.set_cons_zero]
                          refine wpAnyH_take (i := 3) (oi := ⟨(some 68), _, _, _, _, _⟩) (v := ?_) rfl (by kernel_rfl) (by kernel_rfl) (by kernel_rfl) (fun _ _ _ h => h) (Or.inl ⟨by rfl, ?_⟩) (by assumption) ?_
                          rotate_left
                          · (intro w hSw; (try dsimp only at hSw); go_simp <;> with_reducible rfl)
                          try simp only [Act.put]
                          try simp only [List.setIfInBounds_toArray]
                          try simp only [List.set_cons_succ]
                          try simp only [List.set_cons_zero]
                          refine wpAnyH_ready (rs := [2]) (by kernel_rfl) (by simp) ?_
                          refine AllReadyH.cons (o := ⟨(some 67), _, _, _, _, _⟩) rfl (fun K hK => ?_) (AllReadyH.nil)
                          go_simp
                          go_at_call 9
                          refine HLg5.out.mono ?_
                          rintro e w6 ⟨rfl, hb6⟩
                          have hb56 : Below w5.heap.size w5 w6 := (Below.refl w5.heap.size w5).drew.trans hb6
                          go_wp2_with fail
                          refine hK.out _ _ ?_ (fun hHeld2 => ?_)
                          · exact HS.out _ (Rw.Fr.of_below hb56)
                          clear hK K
                          try simp only [Act.put]
                          try simp only [List.setIfInBounds_toArray]
                          try simp only [List.set_cons_succ]
                          try simp only [List.set_cons_zero]
                          refine wpAnyH_take (i := 4) (oi := ⟨(some 69), _, _, _, _, _⟩) (v := ?_) rfl (by kernel_rfl) (by kernel_rfl) (by kernel_rfl) (fun _ _ _ h => h) (Or.inl ⟨by rfl, ?_⟩) (by assumption) ?_
                          rotate_left
                          · (intro w hSw; (try dsimp only at hSw); go_simp <;> with_reducible rfl)
                          try simp only [Act.put]
                          try simp only [List.setIfInBounds_toArray]
                          try simp only [List.set_cons_succ]
                          try simp only [List.set_cons_zero]
                          refine wpAnyH_take (i := 5) (oi := ⟨(some 70), _, _, _, _, _⟩) (v := ?_) rfl (by kernel_rfl) (by kernel_rfl) (by kernel_rfl) (fun _ _ _ h => h) (Or.inl ⟨by rfl, ?_⟩) (by assumption) ?_
                          rotate_left
                          · (intro w hSw; (try dsimp only at hSw); go_simp <;> with_reducible rfl)
                          try simp only [Act.put]
                          try simp only [List.setIfInBounds_toArray]
                          try simp only [List.set_cons_succ]
                          try simp only [List.set_cons_zero]
                          refine wpAnyH_take (i := 6) (oi := ⟨(some 71), _, _, _, _, _⟩) (v := ?_) rfl (by kernel_rfl) (by kernel_rfl) (by kernel_rfl) (fun _ _ _ h => h) (Or.inl ⟨by rfl, ?_⟩) (by assumption) ?_
                          rotate_left
                          · (intro w hSw; (try dsimp only at hSw); go_simp <;> with_reducible rfl)
                          try simp only [Act.put]
                          try simp only [List.setIfInBounds_toArray]
                          try simp only [List.set_cons_succ]
                          try simp only [List.set_cons_zero]
                          refine wpAnyH_take (i := 7) (oi := ⟨(some 72), _, _, _, _, _⟩) (v := ?_) rfl (by kernel_rfl) (by kernel_rfl) (by kernel_rfl) (fun _ _ _ h => h) (Or.inl ⟨by rfl, ?_⟩) (by assumption) ?_
                          rotate_left
                          · (intro w hSw; (try dsimp only at hSw); go_simp <;> with_reducible rfl)
                          try simp only [Act.put]
                          try simp only [List.setIfInBounds_toArray]
                          try simp only [List.set_cons_succ]
                          try simp only [List.set_cons_zero]
                          refine wpAnyH_take (i := 8) (oi := ⟨(some 73), _, _, _, _, _⟩) (v := ?_) rfl (by kernel_rfl) (by kernel_rfl) (by kernel_rfl) (fun _ _ _ h => h) (Or.inl ⟨by rfl, ?_⟩) (by assumption) ?_
                          rotate_left
                          · (intro w hSw; (try dsimp only at hSw); go_simp <;> with_reducible rfl)
                          try simp only [Act.put]
                          try simp only [List.setIfInBounds_toArray]
                          try simp only [List.set_cons_succ]
                          try simp only [List.set_cons_zero]
                          refine wpAnyH_take (i := 9) (oi := ⟨(some 74), _, _, _, _, _⟩) (v := ?_) rfl (by kernel_rfl) (by kernel_rfl) (by kernel_rfl) (fun _ _ _ h => h) (Or.inl ⟨by rfl, ?_⟩) (by assumption) ?_
                          rotate_left
                          · (intro w hSw; (try dsimp only at hSw); go_simp <;> with_reducible rfl)
                          try simp only [Act.put]
                          try simp only [List.setIfInBounds_toArray]
                          try simp only [List.set_cons_succ]
                          try simp only [List.set_cons_zero]
                          refine wpAnyH_take (i := 10) (oi := ⟨(some 75), _, _, _, _, _⟩) (v := ?_) rfl (by kernel_rfl) (by kernel_rfl) (by kernel_rfl) (fun _ _ _ h => h) (Or.inl ⟨by rfl, ?_⟩) (by assumption) ?_
                          rotate_left
                          · (intro w hSw; (try dsimp only at hSw); go_simp <;> with_reducible rfl)
                          try simp only [Act.put]
                          try simp only [List.setIfInBounds_toArray]
                          try simp only [List.set_cons_succ]
                          try simp only [List.set_cons_zero]
                          refine wpAnyH_take (i := 11) (oi := ⟨(some 15), _, _, _, _, _⟩) (v := ?_) rfl (by kernel_rfl) (by kernel_rfl) (by kernel_rfl) (fun _ _ _ h => h) (Or.inl ⟨by rfl, ?_⟩) (by assumption) ?_
                          rotate_left
                          · (intro w hSw; (try dsimp only at hSw); go_simp <;> with_reducible rfl)
                          try simp only [Act.put]
                          try simp only [List.setIfInBounds_toArray]
                          try simp only [List.set_cons_succ]
                          try simp only [List.set_cons_zero]
                          refine wpAnyH_done (by kernel_rfl) ?_ _
                          refine NoPanic.normal ?_
                          go_wp2
                          go_meet
                          exact ⟨HM.out, hb56⟩
                      · have HM : Hid (Value.bool false = .bool (decide ((Hd.mk ⟨kc, kn, kd⟩ (ar, al)) = ⟨kc, kn, xd, row, ltr⟩))) := show _ = _ by simp [Hd.mk, e3]
                        have hh1 : (kd == xd) = false := by simpa using e3
                        clear e3
                        refine wp_region_noPanic ?_
                        refine wp_region_held_drew (S := fun w' => w'.cell? ⟨W.heap.size, 0, none⟩ = some (.slice fA n fc) ∧ w'.cell? ⟨W.heap.size, 1, none⟩ = some (.slice pA n2 pc) ∧ w'.cell? ⟨ga, 0, none⟩ = some (.int .i64 ak) ∧ w'.cell? ⟨ga, 1, none⟩ = some (.int .i64 af) ∧ w'.cell? ⟨ga, 2, none⟩ = some (.string ac) ∧ w'.cell? ⟨ga, 3, none⟩ = some (.int .i64 an) ∧ w'.cell? ⟨ga, 4, none⟩ = some (.int .i64 ad) ∧ w'.cell? ⟨ga, 5, none⟩ = some (.int .i64 ar) ∧ w'.cell? ⟨ga, 6, none⟩ = some (.int .u8 al) ∧ w'.cell? ⟨ga, 7, none⟩ = some (.string aloc) ∧ w'.cell? ⟨ga, 8, none⟩ = some (.int .i64 apax) ∧ w'.cell? ⟨gx, 0, none⟩ = some (.string kc) ∧ w'.cell? ⟨gx, 1, none⟩ = some (.int .i64 kn) ∧ w'.cell? ⟨gx, 2, none⟩ = some (.int .i64 xd) ∧ w'.cell? ⟨gt, 0, none⟩ = some (.int .i64 row) ∧ w'.cell? ⟨gt, 1, none⟩ = some (.int .u8 ltr)) (by kernel_rfl) (HS.out _ (Rw.Fr.of_below (Below.refl _ _).drew)) (fun hHeld => ?_)
                        refine wpAnyH_take (i := 0) (oi := ⟨(some 65), _, _, _, _, _⟩) (v := ?_) rfl (by kernel_rfl) (by kernel_rfl) (by kernel_rfl) (fun _ _ _ h => h) (Or.inl ⟨by rfl, ?_⟩) (by assumption) ?_
                        rotate_left
                        · (intro w hSw; (try dsimp only at hSw); go_simp <;> with_reducible rfl)
                        try simp only [Act.put]
                        try simp only [List.setIfInBounds_toArray]
                        try simp only [List.set_cons_succ]
                        try simp only [List.set_cons_zero]
                        refine wpAnyH_take (i := 1) (oi := ⟨(some 66), _, _, _, _, _⟩) (v := ?_) rfl (by kernel_rfl) (by kernel_rfl) (by kernel_rfl) (fun _ _ _ h => h) (Or.inl ⟨by rfl, ?_⟩) (by assumption) ?_
                        rotate_left
                        · (intro w hSw; (try dsimp only at hSw); go_simp <;> with_reducible rfl)
                        try simp only [Act.put]
                        try simp only [List.setIfInBounds_toArray]
                        try simp only [List.set_cons_succ]
                        try simp only [List.set_cons_zero]
                        refine wpAnyH_take (i := 3) (oi := ⟨(some 68), _, _, _, _, _⟩) (v := ?_) rfl (by kernel_rfl) (by kernel_rfl) (by kernel_rfl) (fun _ _ _ h => h) (Or.inl ⟨by rfl, ?_⟩) (by assumption) ?_
                        rotate_left
                        · (intro w hSw; (try dsimp only at hSw); go_simp <;> with_reducible rfl)
                        try simp only [Act.put]
                        try simp only [List.setIfInBounds_toArray]
                        try simp only [List.set_cons_succ]
                        try simp only [List.set_cons_zero]
                        refine wpAnyH_ready (rs := [2]) (by kernel_rfl) (by simp) ?_
                        refine AllReadyH.cons (o := ⟨(some 67), _, _, _, _, _⟩) rfl (fun K hK => ?_) (AllReadyH.nil)
                        go_simp
                        go_at_call 9
                        refine HLg5.out.mono ?_
                        rintro e w6 ⟨rfl, hb6⟩
                        have hb56 : Below w5.heap.size w5 w6 := (Below.refl w5.heap.size w5).drew.trans hb6
                        go_wp2_with fail
                        refine hK.out _ _ ?_ (fun hHeld2 => ?_)
                        · exact HS.out _ (Rw.Fr.of_below hb56)
                        clear hK K
                        try simp only [Act.put]
                        try simp only [List.setIfInBounds_toArray]
                        try simp only [List.set_cons_succ]
                        try simp only [List.set_cons_zero]
                        refine wpAnyH_take (i := 4) (oi := ⟨(some 69), _, _, _, _, _⟩) (v := ?_) rfl (by kernel_rfl) (by kernel_rfl) (by kernel_rfl) (fun _ _ _ h => h) (Or.inl ⟨by rfl, ?_⟩) (by assumption) ?_
                        rotate_left
                        · (intro w hSw; (try dsimp only at hSw); go_simp <;> with_reducible rfl)
                        try simp only [Act.put]
                        try simp only [List.setIfInBounds_toArray]
                        try simp only [List.set_cons_succ]
                        try simp only [List.set_cons_zero]
                        refine wpAnyH_take (i := 5) (oi := ⟨(some 70), _, _, _, _, _⟩) (v := ?_) rfl (by kernel_rfl) (by kernel_rfl) (by kernel_rfl) (fun _ _ _ h => h) (Or.inl ⟨by rfl, ?_⟩) (by assumption) ?_
                        rotate_left
                        · (intro w hSw; (try dsimp only at hSw); go_simp <;> with_reducible rfl)
                        try simp only [Act.put]
                        try simp only [List.setIfInBounds_toArray]
                        try simp only [List.set_cons_succ]
                        try simp only [List.set_cons_zero]
                        refine wpAnyH_take (i := 6) (oi := ⟨some 71, _, _, _, _, _⟩) (v := undef) rfl (by kernel_rfl) (by kernel_rfl) (by kernel_rfl) (fun _ _ _ h => h) (Or.inr ⟨by rfl, rfl⟩) (by assumption) ?_
                        try simp only [Act.put]
                        try simp only [List.setIfInBounds_toArray]
                        try simp only [List.set_cons_succ]
                        try simp only [List.set_cons_zero]
                        refine wpAnyH_take (i := 7) (oi := ⟨some 72, _, _, _, _, _⟩) (v := undef) rfl (by kernel_rfl) (by kernel_rfl) (by kernel_rfl) (fun _ _ _ h => h) (Or.inr ⟨by rfl, rfl⟩) (by assumption) ?_
                        try simp only [Act.put]
                        try simp only [List.setIfInBounds_toArray]
                        try simp only [List.set_cons_succ]
                        try simp only [List.set_cons_zero]
                        refine wpAnyH_take (i := 8) (oi := ⟨some 73, _, _, _, _, _⟩) (v := undef) rfl (by kernel_rfl) (by kernel_rfl) (by kernel_rfl) (fun _ _ _ h => h) (Or.inr ⟨by rfl, rfl⟩) (by assumption) ?_
                        try simp only [Act.put]
                        try simp only [List.setIfInBounds_toArray]
                        try simp only [List.set_cons_succ]
                        try simp only [List.set_cons_zero]
                        refine wpAnyH_take (i := 9) (oi := ⟨some 74, _, _, _, _, _⟩) (v := undef) rfl (by kernel_rfl) (by kernel_rfl) (by kernel_rfl) (fun _ _ _ h => h) (Or.inr ⟨by rfl, rfl⟩) (by assumption) ?_
                        try simp only [Act.put]
                        try simp only [List.setIfInBounds_toArray]
                        try simp only [List.set_cons_succ]
                        try simp only [List.set_cons_zero]
                        refine wpAnyH_take (i := 10) (oi := ⟨(some 75), _, _, _, _, _⟩) (v := ?_) rfl (by kernel_rfl) (by kernel_rfl) (by kernel_rfl) (fun _ _ _ h => h) (Or.inl ⟨by rfl, ?_⟩) (by assumption) ?_
                        rotate_left
                        · (intro w hSw; (try dsimp only at hSw); go_simp <;> with_reducible rfl)
                        try simp only [Act.put]
                        try simp only [List.setIfInBounds_toArray]
                        try simp only [List.set_cons_succ]
                        try simp only [List.set_cons_zero]
                        refine wpAnyH_take (i := 11) (oi := ⟨(some 15), _, _, _, _, _⟩) (v := ?_) rfl (by kernel_rfl) (by kernel_rfl) (by kernel_rfl) (fun _ _ _ h => h) (Or.inl ⟨by rfl, ?_⟩) (by assumption) ?_
                        rotate_left
                        · (intro w hSw; (try dsimp only at hSw); go_simp <;> with_reducible rfl)
                        try simp only [Act.put]
                        try simp only [List.setIfInBounds_toArray]
                        try simp only [List.set_cons_succ]
                        try simp only [List.set_cons_zero]
                        refine wpAnyH_done (by kernel_rfl) ?_ _
                        refine NoPanic.normal ?_
                        go_wp2
                        go_meet
                        exact ⟨HM.out, hb56⟩
                    · have HM : Hid (Value.bool false = .bool (decide ((Hd.mk ⟨kc, kn, kd⟩ (ar, al)) = ⟨kc, xn, xd, row, ltr⟩))) := show _ = _ by simp [Hd.mk, e2]
                      have hh1 : (kn == xn) = false := by simpa using e2
                      clear e2
                      refine wp_region_noPanic ?_
                      refine wp_region_held_drew (S := fun w' => w'.cell? ⟨W.heap.size, 0, none⟩ = some (.slice fA n fc) ∧ w'.cell? ⟨W.heap.size, 1, none⟩ = some (.slice pA n2 pc) ∧ w'.cell? ⟨ga, 0, none⟩ = some (.int .i64 ak) ∧ w'.cell? ⟨ga, 1, none⟩ = some (.int .i64 af) ∧ w'.cell? ⟨ga, 2, none⟩ = some (.string ac) ∧ w'.cell? ⟨ga, 3, none⟩ = some (.int .i64 an) ∧ w'.cell? ⟨ga, 4, none⟩ = some (.int .i64 ad) ∧ w'.cell? ⟨ga, 5, none⟩ = some (.int .i64 ar) ∧ w'.cell? ⟨ga, 6, none⟩ = some (.int .u8 al) ∧ w'.cell? ⟨ga, 7, none⟩ = some (.string aloc) ∧ w'.cell? ⟨ga, 8, none⟩ = some (.int .i64 apax) ∧ w'.cell? ⟨gx, 0, none⟩ = some (.string kc) ∧ w'.cell? ⟨gx, 1, none⟩ = some (.int .i64 xn) ∧ w'.cell? ⟨gx, 2, none⟩ = some (.int .i64 xd) ∧ w'.cell? ⟨gt, 0, none⟩ = some (.int .i64 row) ∧ w'.cell? ⟨gt, 1, none⟩ = some (.int .u8 ltr)) (by kernel_rfl) (HS.out _ (Rw.Fr.of_below (Below.refl _ _).drew)) (fun hHeld => ?_)
                      refine wpAnyH_take (i := 0) (oi := ⟨(some 65), _, _, _, _, _⟩) (v := ?_) rfl (by kernel_rfl) (by kernel_rfl) (by kernel_rfl) (fun _ _ _ h => h) (Or.inl ⟨by rfl, ?_⟩) (by assumption) ?_
                      rotate_left
                      · (intro w hSw; (try dsimp only at hSw); go_simp <;> with_reducible rfl)
                      try simp only [Act.put]
                      try simp only [List.setIfInBounds_toArray]
                      try simp only [List.set_cons_succ]
                      try simp only [List.set_cons_zero]
                      refine wpAnyH_take (i := 1) (oi := ⟨(some 66), _, _, _, _, _⟩) (v := ?_) rfl (by kernel_rfl) (by kernel_rfl) (by kernel_rfl) (fun _ _ _ h => h) (Or.inl ⟨by rfl, ?_⟩) (by assumption) ?_
                      rotate_left
                      · (intro w hSw; (try dsimp only at hSw); go_simp <;> with_reducible rfl)
                      try simp only [Act.put]
                      try simp only [List.setIfInBounds_toArray]
                      try simp only [List.set_cons_succ]
                      try simp only [List.set_cons_zero]
                      refine wpAnyH_take (i := 3) (oi := ⟨(some 68), _, _, _, _, _⟩) (v := ?_) rfl (by kernel_rfl) (by kernel_rfl) (by kernel_rfl) (fun _ _ _ h => h) (Or.inl ⟨by rfl, ?_⟩) (by assumption) ?_
                      rotate_left
                      · (intro w hSw; (try dsimp only at hSw); go_simp <;> with_reducible rfl)
                      try simp only [Act.put]
                      try simp only [List.setIfInBounds_toArray]
                      try simp only [List.set_cons_succ]
                      try simp only [List.set_cons_zero]
                      refine wpAnyH_ready (rs := [2]) (by kernel_rfl) (by simp) ?_
                      refine AllReadyH.cons (o := ⟨(some 67), _, _, _, _, _⟩) rfl (fun K hK => ?_) (AllReadyH.nil)
                      go_simp
                      go_at_call 9
                      refine HLg5.out.mono ?_
                      rintro e w6 ⟨rfl, hb6⟩
                      have hb56 : Below w5.heap.size w5 w6 := (Below.refl w5.heap.size w5).drew.trans hb6
                      go_wp2_with fail
                      refine hK.out _ _ ?_ (fun hHeld2 => ?_)
                      · exact HS.out _ (Rw.Fr.of_below hb56)
                      clear hK K
                      try simp only [Act.put]
                      try simp only [List.setIfInBounds_toArray]
                      try simp only [List.set_cons_succ]
                      try simp only [List.set_cons_zero]
                      refine wpAnyH_take (i := 4) (oi := ⟨(some 69), _, _, _, _, _⟩) (v := ?_) rfl (by kernel_rfl) (by kernel_rfl) (by kernel_rfl) (fun _ _ _ h => h) (Or.inl ⟨by rfl, ?_⟩) (by assumption) ?_
                      rotate_left
                      · (intro w hSw; (try dsimp only at hSw); go_simp <;> with_reducible rfl)
                      try simp only [Act.put]
                      try simp only [List.setIfInBounds_toArray]
                      try simp only [List.set_cons_succ]
                      try simp only [List.set_cons_zero]
                      refine wpAnyH_take (i := 5) (oi := ⟨(some 70), _, _, _, _, _⟩) (v := ?_) rfl (by kernel_rfl) (by kernel_rfl) (by kernel_rfl) (fun _ _ _ h => h) (Or.inl ⟨by rfl, ?_⟩) (by assumption) ?_
                      rotate_left
                      · (intro w hSw; (try dsimp only at hSw); go_simp <;> with_reducible rfl)
                      try simp only [Act.put]
                      try simp only [List.setIfInBounds_toArray]
                      try simp only [List.set_cons_succ]
                      try simp only [List.set_cons_zero]
                      refine wpAnyH_take (i := 6) (oi := ⟨some 71, _, _, _, _, _⟩) (v := undef) rfl (by kernel_rfl) (by kernel_rfl) (by kernel_rfl) (fun _ _ _ h => h) (Or.inr ⟨by rfl, rfl⟩) (by assumption) ?_
                      try simp only [Act.put]
                      try simp only [List.setIfInBounds_toArray]
                      try simp only [List.set_cons_succ]
                      try simp only [List.set_cons_zero]
                      refine wpAnyH_take (i := 7) (oi := ⟨some 72, _, _, _, _, _⟩) (v := undef) rfl (by kernel_rfl) (by kernel_rfl) (by kernel_rfl) (fun _ _ _ h => h) (Or.inr ⟨by rfl, rfl⟩) (by assumption) ?_
                      try simp only [Act.put]
                      try simp only [List.setIfInBounds_toArray]
                      try simp only [List.set_cons_succ]
                      try simp only [List.set_cons_zero]
                      refine wpAnyH_take (i := 8) (oi := ⟨some 73, _, _, _, _, _⟩) (v := undef) rfl (by kernel_rfl) (by kernel_rfl) (by kernel_rfl) (fun _ _ _ h => h) (Or.inr ⟨by rfl, rfl⟩) (by assumption) ?_
                      try simp only [Act.put]
                      try simp only [List.setIfInBounds_toArray]
                      try simp only [List.set_cons_succ]
                      try simp only [List.set_cons_zero]
                      refine wpAnyH_take (i := 9) (oi := ⟨some 74, _, _, _, _, _⟩) (v := undef) rfl (by kernel_rfl) (by kernel_rfl) (by kernel_rfl) (fun _ _ _ h => h) (Or.inr ⟨by rfl, rfl⟩) (by assumption) ?_
                      try simp only [Act.put]
                      try simp only [List.setIfInBounds_toArray]
                      try simp only [List.set_cons_succ]
                      try simp only [List.set_cons_zero]
                      refine wpAnyH_take (i := 10) (oi := ⟨(some 75), _, _, _, _, _⟩) (v := ?_) rfl (by kernel_rfl) (by kernel_rfl) (by kernel_rfl) (fun _ _ _ h => h) (Or.inl ⟨by rfl, ?_⟩) (by assumption) ?_
                      rotate_left
                      · (intro w hSw; (try dsimp only at hSw); go_simp <;> with_reducible rfl)
                      try simp only [Act.put]
                      try simp only [List.setIfInBounds_toArray]
                      try simp only [List.set_cons_succ]
                      try simp only [List.set_cons_zero]
                      refine wpAnyH_take (i := 11) (oi := ⟨(some 15), _, _, _, _, _⟩) (v := ?_) rfl (by kernel_rfl) (by kernel_rfl) (by kernel_rfl) (fun _ _ _ h => h) (Or.inl ⟨by rfl, ?_⟩) (by assumption) ?_
                      rotate_left
                      · (intro w hSw; (try dsimp only at hSw); go_simp <;> with_reducible rfl)
                      try simp only [Act.put]
                      try simp only [List.setIfInBounds_toArray]
                      try simp only [List.set_cons_succ]
                      try simp only [List.set_cons_zero]
                      refine wpAnyH_done (by kernel_rfl) ?_ _
                      refine NoPanic.normal ?_
                      go_wp2
                      go_meet
                      exact ⟨HM.out, hb56⟩
                  · have HM : Hid (Value.bool false = .bool (decide ((Hd.mk ⟨kc, kn, kd⟩ (ar, al)) = ⟨xc, xn, xd, row, ltr⟩))) := show _ = _ by simp [Hd.mk, e1]
                    have hh1 := Fl.str_ne e1
                    clear e1
                    refine wp_region_noPanic ?_
                    refine wp_region_held_drew (S := fun w' => w'.cell? ⟨W.heap.size, 0, none⟩ = some (.slice fA n fc) ∧ w'.cell? ⟨W.heap.size, 1, none⟩ = some (.slice pA n2 pc) ∧ w'.cell? ⟨ga, 0, none⟩ = some (.int .i64 ak) ∧ w'.cell? ⟨ga, 1, none⟩ = some (.int .i64 af) ∧ w'.cell? ⟨ga, 2, none⟩ = some (.string ac) ∧ w'.cell? ⟨ga, 3, none⟩ = some (.int .i64 an) ∧ w'.cell? ⟨ga, 4, none⟩ = some (.int .i64 ad) ∧ w'.cell? ⟨ga, 5, none⟩ = some (.int .i64 ar) ∧ w'.cell? ⟨ga, 6, none⟩ = some (.int .u8 al) ∧ w'.cell? ⟨ga, 7, none⟩ = some (.string aloc) ∧ w'.cell? ⟨ga, 8, none⟩ = some (.int .i64 apax) ∧ w'.cell? ⟨gx, 0, none⟩ = some (.string xc) ∧ w'.cell? ⟨gx, 1, none⟩ = some (.int .i64 xn) ∧ w'.cell? ⟨gx, 2, none⟩ = some (.int .i64 xd) ∧ w'.cell? ⟨gt, 0, none⟩ = some (.int .i64 row) ∧ w'.cell? ⟨gt, 1, none⟩ = some (.int .u8 ltr)) (by kernel_rfl) (HS.out _ (Rw.Fr.of_below (Below.refl _ _).drew)) (fun hHeld => ?_)
                    refine wpAnyH_take (i := 0) (oi := ⟨(some 65), _, _, _, _, _⟩) (v := ?_) rfl (by kernel_rfl) (by kernel_rfl) (by kernel_rfl) (fun _ _ _ h => h) (Or.inl ⟨by rfl, ?_⟩) (by assumption) ?_
                    rotate_left
                    · (intro w hSw; (try dsimp only at hSw); go_simp <;> with_reducible rfl)
                    try simp only [Act.put]
                    try simp only [List.setIfInBounds_toArray]
                    try simp only [List.set_cons_succ]
                    try simp only [List.set_cons_zero]
                    refine wpAnyH_take (i := 1) (oi := ⟨(some 66), _, _, _, _, _⟩) (v := ?_) rfl (by kernel_rfl) (by kernel_rfl) (by kernel_rfl) (fun _ _ _ h => h) (Or.inl ⟨by rfl, ?_⟩) (by assumption) ?_
                    rotate_left
                    · (intro w hSw; (try dsimp only at hSw); go_simp <;> with_reducible rfl)
                    try simp only [Act.put]
                    try simp only [List.setIfInBounds_toArray]
                    try simp only [List.set_cons_succ]
                    try simp only [List.set_cons_zero]
                    refine wpAnyH_take (i := 3) (oi := ⟨(some 68), _, _, _, _, _⟩) (v := ?_) rfl (by kernel_rfl) (by kernel_rfl) (by kernel_rfl) (fun _ _ _ h => h) (Or.inl ⟨by rfl, ?_⟩) (by assumption) ?_
                    rotate_left
                    · (intro w hSw; (try dsimp only at hSw); go_simp <;> with_reducible rfl)
                    try simp only [Act.put]
                    try simp only [List.setIfInBounds_toArray]
                    try simp only [List.set_cons_succ]
                    try simp only [List.set_cons_zero]
                    refine wpAnyH_ready (rs := [2]) (by kernel_rfl) (by simp) ?_
                    refine AllReadyH.cons (o := ⟨(some 67), _, _, _, _, _⟩) rfl (fun K hK => ?_) (AllReadyH.nil)
                    go_simp
                    go_at_call 9
                    refine HLg5.out.mono ?_
                    rintro e w6 ⟨rfl, hb6⟩
                    have hb56 : Below w5.heap.size w5 w6 := (Below.refl w5.heap.size w5).drew.trans hb6
                    go_wp2_with fail
                    refine hK.out _ _ ?_ (fun hHeld2 => ?_)
                    · exact HS.out _ (Rw.Fr.of_below hb56)
                    clear hK K
                    try simp only [Act.put]
                    try simp only [List.setIfInBounds_toArray]
                    try simp only [List.set_cons_succ]
                    try simp only [List.set_cons_zero]
                    refine wpAnyH_take (i := 4) (oi := ⟨(some 69), _, _, _, _, _⟩) (v := ?_) rfl (by kernel_rfl) (by kernel_rfl) (by kernel_rfl) (fun _ _ _ h => h) (Or.inl ⟨by rfl, ?_⟩) (by assumption) ?_
                    rotate_left
                    · (intro w hSw; (try dsimp only at hSw); go_simp <;> with_reducible rfl)
                    try simp only [Act.put]
                    try simp only [List.setIfInBounds_toArray]
                    try simp only [List.set_cons_succ]
                    try simp only [List.set_cons_zero]
                    refine wpAnyH_take (i := 5) (oi := ⟨(some 70), _, _, _, _, _⟩) (v := ?_) rfl (by kernel_rfl) (by kernel_rfl) (by kernel_rfl) (fun _ _ _ h => h) (Or.inl ⟨by rfl, ?_⟩) (by assumption) ?_
                    rotate_left
                    · (intro w hSw; (try dsimp only at hSw); go_simp <;> with_reducible rfl)
                    try simp only [Act.put]
                    try simp only [List.setIfInBounds_toArray]
                    try simp only [List.set_cons_succ]
                    try simp only [List.set_cons_zero]
                    refine wpAnyH_take (i := 6) (oi := ⟨some 71, _, _, _, _, _⟩) (v := undef) rfl (by kernel_rfl) (by kernel_rfl) (by kernel_rfl) (fun _ _ _ h => h) (Or.inr ⟨by rfl, rfl⟩) (by assumption) ?_
                    try simp only [Act.put]
                    try simp only [List.setIfInBounds_toArray]
                    try simp only [List.set_cons_succ]
                    try simp only [List.set_cons_zero]
                    refine wpAnyH_take (i := 7) (oi := ⟨some 72, _, _, _, _, _⟩) (v := undef) rfl (by kernel_rfl) (by kernel_rfl) (by kernel_rfl) (fun _ _ _ h => h) (Or.inr ⟨by rfl, rfl⟩) (by assumption) ?_
                    try simp only [Act.put]
                    try simp only [List.setIfInBounds_toArray]
                    try simp only [List.set_cons_succ]
                    try simp only [List.set_cons_zero]
                    refine wpAnyH_take (i := 8) (oi := ⟨some 73, _, _, _, _, _⟩) (v := undef) rfl (by kernel_rfl) (by kernel_rfl) (by kernel_rfl) (fun _ _ _ h => h) (Or.inr ⟨by rfl, rfl⟩) (by assumption) ?_
                    try simp only [Act.put]
                    try simp only [List.setIfInBounds_toArray]
                    try simp only [List.set_cons_succ]
                    try simp only [List.set_cons_zero]
                    refine wpAnyH_take (i := 9) (oi := ⟨some 74, _, _, _, _, _⟩) (v := undef) rfl (by kernel_rfl) (by kernel_rfl) (by kernel_rfl) (fun _ _ _ h => h) (Or.inr ⟨by rfl, rfl⟩) (by assumption) ?_
                    try simp only [Act.put]
                    try simp only [List.setIfInBounds_toArray]
                    try simp only [List.set_cons_succ]
                    try simp only [List.set_cons_zero]
                    refine wpAnyH_take (i := 10) (oi := ⟨(some 75), _, _, _, _, _⟩) (v := ?_) rfl (by kernel_rfl) (by kernel_rfl) (by kernel_rfl) (fun _ _ _ h => h) (Or.inl ⟨by rfl, ?_⟩) (by assumption) ?_
                    rotate_left
                    · (intro w hSw; (try dsimp only at hSw); go_simp <;> with_reducible rfl)
                    try simp only [Act.put]
                    try simp only [List.setIfInBounds_toArray]
                    try simp only [List.set_cons_succ]
                    try simp only [List.set_cons_zero]
                    refine wpAnyH_take (i := 11) (oi := ⟨(some 15), _, _, _, _, _⟩) (v := ?_) rfl (by kernel_rfl) (by kernel_rfl) (by kernel_rfl) (fun _ _ _ h => h) (Or.inl ⟨by rfl, ?_⟩) (by assumption) ?_
                    rotate_left
                    · (intro w hSw; (try dsimp only at hSw); go_simp <;> with_reducible rfl)
                    try simp only [Act.put]
                    try simp only [List.setIfInBounds_toArray]
                    try simp only [List.set_cons_succ]
                    try simp only [List.set_cons_zero]
                    refine wpAnyH_done (by kernel_rfl) ?_ _
                    refine NoPanic.normal ?_
                    go_wp2
                    go_meet
                    exact ⟨HM.out, hb56⟩
                case rest =>
                  obtain ⟨wb, ewb⟩ : ∃ wb, wb = wc := ⟨_, rfl⟩
                  subst ewb
                  obtain ⟨rfl, hb⟩ := hcut.out
                  have HF0 : Hid (Rw.Fr (· = m) w5 wb) := Rw.Fr.of_below hb
                  have HF0d : Hid (Rw.Fr (· = m) w5 wb.drew) := Rw.Fr.of_below hb.drew
                  have HBb := Lib.hid (HBF.out _ HF0.out)
                  have HAb := Lib.hid (HA5.out.kept hb)
                  have HTk := Lib.hid (fun w (hA : Hd.At w Bt p t m A cap rs' gs l) => take_any Bt p t m A cap rs' gs l (Hd.mk ⟨kc, kn, kd⟩ (ar, al)) ⟨aloc, apax⟩ w hA HKa.out)
                  have HFk := Lib.hid (fun w (hA : Hd.At w Bt p t m A cap rs' gs l) => free_any Bt p t m A cap rs' gs l (Hd.mk ⟨kc, kn, kd⟩ (ar, al)) ⟨aloc, apax⟩ w hA HKa.out)
                  have HHas := Lib.hid (fun w {l} (hA : Hd.At w Bt p t m A cap rs' gs l) => hhas_any Bt p t m A cap rs' gs l ⟨xc, xn, xd, row, ltr⟩ w hA HKj.out)
                  unfold Hd.mk at HTk HFk
                  simp only at HTk HFk HHas
                  clear hcut HLg5 hb HA5
                  obtain ⟨mn, hmn⟩ : ∃ y, y = decide ((Hd.mk ⟨kc, kn, kd⟩ (ar, al)) = ⟨xc, xn, xd, row, ltr⟩) := ⟨_, rfl⟩
                  rw [← hmn]
                  have HMn := Lib.hid hmn
                  clear hmn
                  obtain ⟨y0, y1, q0, q1, q2, q3, q4, q5, q6, q7, q8, l0, l1, l2, s0, s1⟩ := HS.out _ HF0.out
                  go_upto_if 78 with fail
                  go_cut [12, 16, 17] from 55 to 160 (fun s12 s16 s17 wc => Hid (∃ (l : List (Hd.K × Hd.H)) (ow : Hd.H), s12 = .bool (Hd.who l ⟨xc, xn, xd, row, ltr⟩).isSome ∧ Hid (Hd.At wc Bt p t m A cap rs' gs l) ∧ Hid (Rw.Blk wc go 39 [.string ow.loc, .int .i64 ow.pax]) ∧ Hid (∀ h, Hd.who l ⟨xc, xn, xd, row, ltr⟩ = some h → ow = h) ∧ Hid (Rw.Blk wc W.heap.size 25 [.slice fA n fc, .slice pA n2 pc]) ∧ Hid (Rw.Blk wc gx 35 (Hd.encL ⟨xc, xn, xd⟩)) ∧ Hid (Rw.Blk wc gt 37 [.int .i64 row, .int .u8 ltr]) ∧ Hid (Below W.heap.size W wc)))
                  case first =>
                    by_cases hkd : ak = 0
                    · have hkd1 : (ak == 0) = true := by simp [hkd]
                      clear hkd
                      have HBt := Lib.hid HAb.out.lom
                      go_upto_region 15 with fail
                      go_cut [16] from 55 to 160 (fun s16 wc => Hid (∃ (cd : Int) (l8 : List (Hd.K × Hd.H)), s16 = .int .i64 cd ∧ cd = Hd.takeC (rs'.map Fl.R.f) (gs.map Prod.snd) l (⟨kc, kn, kd, ar, al⟩ : Hd.K) ⟨aloc, apax⟩ ∧ Hd.At wc Bt p t m A cap rs' gs l8 ∧ Rw.Fr (· = m) w5 wc ∧ ∀ k', Hd.who l8 k' = if k' = (⟨kc, kn, kd, ar, al⟩ : Hd.K) ∧ cd = 0 then some ⟨aloc, apax⟩ else Hd.who l k'))
                      case first =>
                        go_region_held3 (fun w' => w'.cell? ⟨W.heap.size, 0, none⟩ = some (.slice fA n fc) ∧ w'.cell? ⟨W.heap.size, 1, none⟩ = some (.slice pA n2 pc) ∧ w'.cell? ⟨ga, 0, none⟩ = some (.int .i64 ak) ∧ w'.cell? ⟨ga, 1, none⟩ = some (.int .i64 af) ∧ w'.cell? ⟨ga, 2, none⟩ = some (.string ac) ∧ w'.cell? ⟨ga, 3, none⟩ = some (.int .i64 an) ∧ w'.cell? ⟨ga, 4, none⟩ = some (.int .i64 ad) ∧ w'.cell? ⟨ga, 5, none⟩ = some (.int .i64 ar) ∧ w'.cell? ⟨ga, 6, none⟩ = some (.int .u8 al) ∧ w'.cell? ⟨ga, 7, none⟩ = some (.string aloc) ∧ w'.cell? ⟨ga, 8, none⟩ = some (.int .i64 apax) ∧ w'.cell? ⟨gx, 0, none⟩ = some (.string xc) ∧ w'.cell? ⟨gx, 1, none⟩ = some (.int .i64 xn) ∧ w'.cell? ⟨gx, 2, none⟩ = some (.int .i64 xd) ∧ w'.cell? ⟨gt, 0, none⟩ = some (.int .i64 row) ∧ w'.cell? ⟨gt, 1, none⟩ = some (.int .u8 ltr)) (first | exact HS.out _ HF0.out | exact HS.out _ HF0d.out | exact HS.out _ HF7.out | exact HS.out _ HF8.out) (first
                          | (go_at_call 9; refine (HLg.out _ HBb.out.drew).mono ?_; rintro e w7 ⟨rfl, hb7⟩; have HB67 : Hid (Below wb.heap.size wb w7) := (Below.refl _ _).drew.trans hb7; have HF7 := Lib.hid (HF0.out.trans (Rw.Fr.of_below (F := fun _ => False) HB67.out) (fun _ _ (e : False) => e.elim)); have HA7 := Lib.hid (HAb.out.kept HB67.out); have HT7 := Lib.hid (HTk.out w7 HA7.out); clear hb7)
                          | (go_at_call 12; refine HT7.out.mono ?_; rintro e w8 hT8; obtain ⟨rfl, l8, hA8, hf8, hw8, _⟩ := Hd.take_who HA7.out hT8; have HA8 := Lib.hid hA8; have HF8 := Lib.hid (HF7.out.trans hf8 (fun _ _ e => e)); have HW8 := Lib.hid hw8; clear hT8 hA8 hf8 hw8))
                        go_wp2
                        go_meet
                        exact ⟨_, l8, rfl, rfl, HA8.out, HF8.out, HW8.out⟩
                      case rest =>
                        obtain ⟨w8, ew8⟩ : ∃ wd, wd = wc := ⟨_, rfl⟩
                        subst ew8
                        obtain ⟨cd, l8, rfl, hcd, hA8, hf8, hw8⟩ := hcut.out
                        have HA8 := Lib.hid hA8
                        have HF8 := Lib.hid hf8
                        have HW8 := Lib.hid (hw8 ⟨xc, xn, xd, row, ltr⟩)
                        have HCD := Lib.hid hcd
                        clear hcut hA8 hf8 hw8 hcd y0 y1 q0 q1 q2 q3 q4 q5 q6 q7 q8 l0 l1 l2 s0 s1
                        obtain ⟨y0, y1, q0, q1, q2, q3, q4, q5, q6, q7, q8, l0, l1, l2, s0, s1⟩ := HS.out _ HF8.out
                        have HKo8 := Lib.hid (HKoF.out _ HF8.out)
                        obtain ⟨o0, o1⟩ : w8.cell? ⟨go, 0, none⟩ = some (.string ow.loc) ∧ w8.cell? ⟨go, 1, none⟩ = some (.int .i64 ow.pax) := ⟨HKo8.out.cell 0, HKo8.out.cell 1⟩
                        have HB8 := Lib.hid (HBF.out _ HF8.out)
                        cases mn with
                        | false =>
                            have hne : ¬ (⟨xc, xn, xd, row, ltr⟩ : Hd.K) = (⟨kc, kn, kd, ar, al⟩ : Hd.K) := fun e => (of_decide_eq_false HMn.out.symm) e.symm
                            have HE : Hid (Hd.who l8 ⟨xc, xn, xd, row, ltr⟩ = Hd.who l ⟨xc, xn, xd, row, ltr⟩) := HW8.out.trans (if_neg fun h => hne h.1)
                            go_wp2
                            go_meet
                            exact ⟨l8, ow, by rw [HE.out], HA8, HKo8, (fun h hh => HOw.out h (by rw [← HE.out]; exact hh)), (HKxF.out _ HF8.out).1, (HKxF.out _ HF8.out).2.1, (HKxF.out _ HF8.out).2.2, HBF.out _ HF8.out⟩
                        | true =>
                            have heq : (⟨kc, kn, kd, ar, al⟩ : Hd.K) = ⟨xc, xn, xd, row, ltr⟩ := of_decide_eq_true HMn.out.symm
                            injection heq with g1 g2 g3 g4 g5
                            subst g1 g2 g3 g4 g5
                            clear HMn
                            obtain ⟨ck, hck⟩ : ∃ y, y = Hd.chk (rs'.map Fl.R.f) (gs.map Prod.snd) ⟨kc, kn, kd, ar, al⟩ := ⟨_, rfl⟩
                            rw [← hck] at HHas
                            by_cases hc0 : ck = 0
                            · have hc1 : Hd.chk (rs'.map Fl.R.f) (gs.map Prod.snd) ⟨kc, kn, kd, ar, al⟩ = 0 := hck.symm.trans hc0
                              have hc2 : (ck == 0) = true := by simp [hc0]
                              rw [hc2] at HHas
                              clear hck hc0 hc2
                              cases hw : Hd.who l ⟨kc, kn, kd, ar, al⟩ with
                              | none =>
                                  have hcd : cd = 0 := HCD.out.trans (Hd.takeC_none hc1 hw)
                                  subst hcd
                                  clear hc1 HCD
                                  have HE : Hid (Hd.who l8 ⟨kc, kn, kd, ar, al⟩ = some ⟨aloc, apax⟩) := HW8.out.trans (if_pos ⟨rfl, rfl⟩)
                                  clear HW8
                                  simp only [Option.isSome_none]
                                  have HH8 := Lib.hid (HHas.out _ HA8.out)
                                  go_wp2_with (first
                                    | (refine Rw.wpList_store_whole rfl 39 _ _ rfl go rfl [.string aloc, .int .i64 apax] rfl _ _ HKo9.out Hd.iH rfl Hd.one2 ?_; intro w10 K10 f10)
                                    | (go_at_call 16; refine HH8.out.mono ?_; rintro e w9 ⟨rfl, hb9⟩; clear y0 y1 q0 q1 q2 q3 q4 q5 q6 q7 q8 l0 l1 l2 s0 s1 o0 o1; have HF9 := Lib.hid (HF8.out.trans (Rw.Fr.of_below (F := fun _ => False) hb9) (fun _ _ (e : False) => e.elim)); obtain ⟨y0, y1, q0, q1, q2, q3, q4, q5, q6, q7, q8, l0, l1, l2, s0, s1⟩ := HS.out _ HF9.out; have HKo9 := Lib.hid (HKoF.out _ HF9.out); obtain ⟨o0, o1⟩ : w9.cell? ⟨go, 0, none⟩ = some (.string ow.loc) ∧ w9.cell? ⟨go, 1, none⟩ = some (.int .i64 ow.pax) := ⟨HKo9.out.cell 0, HKo9.out.cell 1⟩; have HA9 := Lib.hid (HA8.out.kept hb9)))
                                  have HKo10 := Lib.hid K10
                                  have HA10 := Lib.hid (HA9.out.stored HKo9.out f10 (Nat.le_trans HBt.out (Nat.le_of_lt hmgo)) (by decide) (by decide))
                                  have hx9 := HKxF.out _ HF9.out
                                  have HX10 : Hid (Rw.Blk w10 W.heap.size 25 [.slice fA n fc, .slice pA n2 pc] ∧ Rw.Blk w10 gx 35 (Hd.encL ⟨kc, kn, kd⟩) ∧ Rw.Blk w10 gt 37 [.int .i64 ar, .int .u8 al]) := ⟨hx9.1.kept (f10.block _ hx9.1.lt (show ¬ (W.heap.size = go) by omega)), hx9.2.1.kept (f10.block _ hx9.2.1.lt (show ¬ (gx = go) by omega)), hx9.2.2.kept (f10.block _ hx9.2.2.lt (show ¬ (gt = go) by omega))⟩
                                  have HB9 := Lib.hid (HBF.out _ HF9.out)
                                  have HB10 := Lib.hid (HB9.out.trans (f10.below (B := W.heap.size) HB9.out.size (fun k hk => by have : k = go := hk; omega)))
                                  clear hx9 K10 f10
                                  go_meet
                                  exact ⟨l8, ⟨aloc, apax⟩, by rw [HE.out]; rfl, HA10, HKo10, (fun h hh => by rw [HE.out] at hh; injection hh), HX10.out.1, HX10.out.2.1, HX10.out.2.2, HB10⟩
                              | some hh =>
                                  have hho := HOw.out hh hw
                                  subst hho
                                  have HT0 := Lib.hid (HCD.out.trans (Hd.takeC_some (h := ⟨aloc, apax⟩) hc1 hw))
                                  clear hc1 HCD
                                  simp only [Option.isSome_some]
                                  obtain ⟨owl, owp⟩ := ow
                                  simp only at o0 o1
                                  by_cases he : (⟨owl, owp⟩ : Hd.H) = ⟨aloc, apax⟩
                                  · injection he with he1 he2
                                    subst he1 he2
                                    have hcd : cd = 8 := HT0.out.trans (if_pos rfl)
                                    subst hcd
                                    have HE : Hid (Hd.who l8 ⟨kc, kn, kd, ar, al⟩ = Hd.who l ⟨kc, kn, kd, ar, al⟩) := HW8.out.trans (if_neg fun h => absurd h.2 (by decide))
                                    clear HW8 HT0
                                    have HH8 := Lib.hid (HHas.out _ HA8.out)
                                    go_wp2_with (first
                                      | (go_at_call 16; refine HH8.out.mono ?_; rintro e w9 ⟨rfl, hb9⟩; clear y0 y1 q0 q1 q2 q3 q4 q5 q6 q7 q8 l0 l1 l2 s0 s1 o0 o1; have HF9 := Lib.hid (HF8.out.trans (Rw.Fr.of_below (F := fun _ => False) hb9) (fun _ _ (e : False) => e.elim)); obtain ⟨y0, y1, q0, q1, q2, q3, q4, q5, q6, q7, q8, l0, l1, l2, s0, s1⟩ := HS.out _ HF9.out; have HKo9 := Lib.hid (HKoF.out _ HF9.out); obtain ⟨o0, o1⟩ : w9.cell? ⟨go, 0, none⟩ = some (.string owl) ∧ w9.cell? ⟨go, 1, none⟩ = some (.int .i64 owp) := ⟨HKo9.out.cell 0, HKo9.out.cell 1⟩; have HA9 := Lib.hid (HA8.out.kept hb9)))
                                    go_meet
                                    exact ⟨l8, ⟨owl, owp⟩, by rw [HE.out, hw]; rfl, HA9, HKo9, (fun h hh => HOw.out h (by rw [← HE.out]; exact hh)), (HKxF.out _ HF9.out).1, (HKxF.out _ HF9.out).2.1, (HKxF.out _ HF9.out).2.2, HBF.out _ HF9.out⟩
                                  · by_cases hs : owl = aloc
                                    · subst hs
                                      have hp : owp ≠ apax := fun e => he (by rw [e])
                                      have hp2 : (apax == owp) = false := by simpa using fun e => hp e.symm
                                      have hp3 : (apax != owp) = true := by simpa using fun e => hp e.symm
                                      have hcd : cd = 14 := HT0.out.trans (if_neg he)
                                      clear he hp
                                      subst hcd
                                      have HE : Hid (Hd.who l8 ⟨kc, kn, kd, ar, al⟩ = Hd.who l ⟨kc, kn, kd, ar, al⟩) := HW8.out.trans (if_neg fun h => absurd h.2 (by decide))
                                      clear HW8 HT0
                                      have HH8 := Lib.hid (HHas.out _ HA8.out)
                                      go_wp2_with (first
                                        | (go_at_call 16; refine HH8.out.mono ?_; rintro e w9 ⟨rfl, hb9⟩; clear y0 y1 q0 q1 q2 q3 q4 q5 q6 q7 q8 l0 l1 l2 s0 s1 o0 o1; have HF9 := Lib.hid (HF8.out.trans (Rw.Fr.of_below (F := fun _ => False) hb9) (fun _ _ (e : False) => e.elim)); obtain ⟨y0, y1, q0, q1, q2, q3, q4, q5, q6, q7, q8, l0, l1, l2, s0, s1⟩ := HS.out _ HF9.out; have HKo9 := Lib.hid (HKoF.out _ HF9.out); obtain ⟨o0, o1⟩ : w9.cell? ⟨go, 0, none⟩ = some (.string owl) ∧ w9.cell? ⟨go, 1, none⟩ = some (.int .i64 owp) := ⟨HKo9.out.cell 0, HKo9.out.cell 1⟩; have HA9 := Lib.hid (HA8.out.kept hb9)))
                                      go_meet
                                      exact ⟨l8, ⟨owl, owp⟩, by rw [HE.out, hw]; rfl, HA9, HKo9, (fun h hh => HOw.out h (by rw [← HE.out]; exact hh)), (HKxF.out _ HF9.out).1, (HKxF.out _ HF9.out).2.1, (HKxF.out _ HF9.out).2.2, HBF.out _ HF9.out⟩
                                    · have hs2 := Fl.str_ne (fun e => hs e.symm)
                                      have hcd : cd = 14 := HT0.out.trans (if_neg he)
                                      clear he hs
                                      subst hcd
                                      have HE : Hid (Hd.who l8 ⟨kc, kn, kd, ar, al⟩ = Hd.who l ⟨kc, kn, kd, ar, al⟩) := HW8.out.trans (if_neg fun h => absurd h.2 (by decide))
                                      clear HW8 HT0
                                      have HH8 := Lib.hid (HHas.out _ HA8.out)
                                      go_wp2_with (first
                                        | (go_at_call 16; refine HH8.out.mono ?_; rintro e w9 ⟨rfl, hb9⟩; clear y0 y1 q0 q1 q2 q3 q4 q5 q6 q7 q8 l0 l1 l2 s0 s1 o0 o1; have HF9 := Lib.hid (HF8.out.trans (Rw.Fr.of_below (F := fun _ => False) hb9) (fun _ _ (e : False) => e.elim)); obtain ⟨y0, y1, q0, q1, q2, q3, q4, q5, q6, q7, q8, l0, l1, l2, s0, s1⟩ := HS.out _ HF9.out; have HKo9 := Lib.hid (HKoF.out _ HF9.out); obtain ⟨o0, o1⟩ : w9.cell? ⟨go, 0, none⟩ = some (.string owl) ∧ w9.cell? ⟨go, 1, none⟩ = some (.int .i64 owp) := ⟨HKo9.out.cell 0, HKo9.out.cell 1⟩; have HA9 := Lib.hid (HA8.out.kept hb9)))
                                      go_meet
                                      exact ⟨l8, ⟨owl, owp⟩, by rw [HE.out, hw]; rfl, HA9, HKo9, (fun h hh => HOw.out h (by rw [← HE.out]; exact hh)), (HKxF.out _ HF9.out).1, (HKxF.out _ HF9.out).2.1, (HKxF.out _ HF9.out).2.2, HBF.out _ HF9.out⟩
                            · have hc1 : Hd.chk (rs'.map Fl.R.f) (gs.map Prod.snd) ⟨kc, kn, kd, ar, al⟩ ≠ 0 := fun e => hc0 (hck.trans e)
                              have hc2 : (ck == 0) = false := by simp [hc0]
                              rw [hc2] at HHas
                              have hcd : cd = ck := (HCD.out.trans (Hd.takeC_chk hc1)).trans hck.symm
                              subst hcd
                              clear hck hc1 hc2 HCD
                              have HE : Hid (Hd.who l8 ⟨kc, kn, kd, ar, al⟩ = Hd.who l ⟨kc, kn, kd, ar, al⟩) := HW8.out.trans (if_neg fun h => hc0 h.2)
                              clear hc0 HW8
                              have HH8 := Lib.hid (HHas.out _ HA8.out)
                              go_wp2_with (first
                                | (go_at_call 16; refine HH8.out.mono ?_; rintro e w9 ⟨rfl, hb9⟩; clear y0 y1 q0 q1 q2 q3 q4 q5 q6 q7 q8 l0 l1 l2 s0 s1 o0 o1; have HF9 := Lib.hid (HF8.out.trans (Rw.Fr.of_below (F := fun _ => False) hb9) (fun _ _ (e : False) => e.elim)); obtain ⟨y0, y1, q0, q1, q2, q3, q4, q5, q6, q7, q8, l0, l1, l2, s0, s1⟩ := HS.out _ HF9.out; have HKo9 := Lib.hid (HKoF.out _ HF9.out); obtain ⟨o0, o1⟩ : w9.cell? ⟨go, 0, none⟩ = some (.string ow.loc) ∧ w9.cell? ⟨go, 1, none⟩ = some (.int .i64 ow.pax) := ⟨HKo9.out.cell 0, HKo9.out.cell 1⟩; have HA9 := Lib.hid (HA8.out.kept hb9)))
                              go_meet
                              exact ⟨l8, ow, by rw [HE.out], HA9, HKo9, (fun h hh => HOw.out h (by rw [← HE.out]; exact hh)), (HKxF.out _ HF9.out).1, (HKxF.out _ HF9.out).2.1, (HKxF.out _ HF9.out).2.2, HBF.out _ HF9.out⟩
                    · have hkd1 : (ak == 0) = false := by simp [hkd]
                      clear hkd
                      go_upto_region 21 with fail
                      go_cut [17] from 55 to 160 (fun s17 wc => Hid (∃ (cd : Int) (l8 : List (Hd.K × Hd.H)), s17 = .int .i64 cd ∧ cd = Hd.freeC (rs'.map Fl.R.f) (gs.map Prod.snd) l (⟨kc, kn, kd, ar, al⟩ : Hd.K) ⟨aloc, apax⟩ ∧ Hd.At wc Bt p t m A cap rs' gs l8 ∧ Rw.Fr (· = m) w5 wc ∧ ∀ k', Hd.who l8 k' = if k' = (⟨kc, kn, kd, ar, al⟩ : Hd.K) ∧ cd = 0 then none else Hd.who l k'))
                      case first =>
                        go_region_held3 (fun w' => w'.cell? ⟨W.heap.size, 0, none⟩ = some (.slice fA n fc) ∧ w'.cell? ⟨W.heap.size, 1, none⟩ = some (.slice pA n2 pc) ∧ w'.cell? ⟨ga, 0, none⟩ = some (.int .i64 ak) ∧ w'.cell? ⟨ga, 1, none⟩ = some (.int .i64 af) ∧ w'.cell? ⟨ga, 2, none⟩ = some (.string ac) ∧ w'.cell? ⟨ga, 3, none⟩ = some (.int .i64 an) ∧ w'.cell? ⟨ga, 4, none⟩ = some (.int .i64 ad) ∧ w'.cell? ⟨ga, 5, none⟩ = some (.int .i64 ar) ∧ w'.cell? ⟨ga, 6, none⟩ = some (.int .u8 al) ∧ w'.cell? ⟨ga, 7, none⟩ = some (.string aloc) ∧ w'.cell? ⟨ga, 8, none⟩ = some (.int .i64 apax) ∧ w'.cell? ⟨gx, 0, none⟩ = some (.string xc) ∧ w'.cell? ⟨gx, 1, none⟩ = some (.int .i64 xn) ∧ w'.cell? ⟨gx, 2, none⟩ = some (.int .i64 xd) ∧ w'.cell? ⟨gt, 0, none⟩ = some (.int .i64 row) ∧ w'.cell? ⟨gt, 1, none⟩ = some (.int .u8 ltr)) (first | exact HS.out _ HF0.out | exact HS.out _ HF0d.out | exact HS.out _ HF7.out | exact HS.out _ HF8.out) (first
                          | (go_at_call 9; refine (HLg.out _ HBb.out.drew).mono ?_; rintro e w7 ⟨rfl, hb7⟩; have HB67 : Hid (Below wb.heap.size wb w7) := (Below.refl _ _).drew.trans hb7; have HF7 := Lib.hid (HF0.out.trans (Rw.Fr.of_below (F := fun _ => False) HB67.out) (fun _ _ (e : False) => e.elim)); have HA7 := Lib.hid (HAb.out.kept HB67.out); have HT7 := Lib.hid (HFk.out w7 HA7.out); clear hb7)
                          | (go_at_call 14; refine HT7.out.mono ?_; rintro e w8 hT8; obtain ⟨rfl, l8, hA8, hf8, hw8, _⟩ := Hd.free_who HA7.out hT8; have HA8 := Lib.hid hA8; have HF8 := Lib.hid (HF7.out.trans hf8 (fun _ _ e => e)); have HW8 := Lib.hid hw8; clear hT8 hA8 hf8 hw8))
                        go_wp2
                        go_meet
                        exact ⟨_, l8, rfl, rfl, HA8.out, HF8.out, HW8.out⟩
                      case rest =>
                        obtain ⟨w8, ew8⟩ : ∃ wd, wd = wc := ⟨_, rfl⟩
                        subst ew8
                        obtain ⟨cd, l8, rfl, hcd, hA8, hf8, hw8⟩ := hcut.out
                        have HA8 := Lib.hid hA8
                        have HF8 := Lib.hid hf8
                        have HW8 := Lib.hid (hw8 ⟨xc, xn, xd, row, ltr⟩)
                        have HCD := Lib.hid hcd
                        clear hcut hA8 hf8 hw8 hcd y0 y1 q0 q1 q2 q3 q4 q5 q6 q7 q8 l0 l1 l2 s0 s1
                        obtain ⟨y0, y1, q0, q1, q2, q3, q4, q5, q6, q7, q8, l0, l1, l2, s0, s1⟩ := HS.out _ HF8.out
                        have HKo8 := Lib.hid (HKoF.out _ HF8.out)
                        obtain ⟨o0, o1⟩ : w8.cell? ⟨go, 0, none⟩ = some (.string ow.loc) ∧ w8.cell? ⟨go, 1, none⟩ = some (.int .i64 ow.pax) := ⟨HKo8.out.cell 0, HKo8.out.cell 1⟩
                        have HB8 := Lib.hid (HBF.out _ HF8.out)
                        cases mn with
                        | false =>
                            have hne : ¬ (⟨xc, xn, xd, row, ltr⟩ : Hd.K) = (⟨kc, kn, kd, ar, al⟩ : Hd.K) := fun e => (of_decide_eq_false HMn.out.symm) e.symm
                            have HE : Hid (Hd.who l8 ⟨xc, xn, xd, row, ltr⟩ = Hd.who l ⟨xc, xn, xd, row, ltr⟩) := HW8.out.trans (if_neg fun h => hne h.1)
                            go_wp2
                            go_meet
                            exact ⟨l8, ow, by rw [HE.out], HA8, HKo8, (fun h hh => HOw.out h (by rw [← HE.out]; exact hh)), (HKxF.out _ HF8.out).1, (HKxF.out _ HF8.out).2.1, (HKxF.out _ HF8.out).2.2, HBF.out _ HF8.out⟩
                        | true =>
                            have heq : (⟨kc, kn, kd, ar, al⟩ : Hd.K) = ⟨xc, xn, xd, row, ltr⟩ := of_decide_eq_true HMn.out.symm
                            injection heq with g1 g2 g3 g4 g5
                            subst g1 g2 g3 g4 g5
                            clear HMn
                            cases hw : Hd.who l ⟨kc, kn, kd, ar, al⟩ with
                            | none =>
                                have hc0 : cd ≠ 0 := by
                                  rw [HCD.out]
                                  by_cases hc : Hd.chk (rs'.map Fl.R.f) (gs.map Prod.snd) (⟨kc, kn, kd, ar, al⟩ : Hd.K) = 0
                                  · rw [Hd.freeC_not hc (by rw [hw]; simp)]; decide
                                  · rw [Hd.freeC_chk hc]; exact hc
                                have hc2 : (cd == 0) = false := by simpa using hc0
                                have HE : Hid (Hd.who l8 ⟨kc, kn, kd, ar, al⟩ = Hd.who l ⟨kc, kn, kd, ar, al⟩) := HW8.out.trans (if_neg fun h => hc0 h.2)
                                clear hc0 HCD HW8
                                simp only [Option.isSome_none]
                                go_wp2
                                go_meet
                                exact ⟨l8, ow, by rw [HE.out, hw]; rfl, HA8, HKo8, (fun h hh => HOw.out h (by rw [← HE.out]; exact hh)), (HKxF.out _ HF8.out).1, (HKxF.out _ HF8.out).2.1, (HKxF.out _ HF8.out).2.2, HBF.out _ HF8.out⟩
                            | some hh =>
                                have hho := HOw.out hh hw
                                subst hho
                                have hc1 := HAb.out.chk_of hw
                                simp only [Option.isSome_some]
                                obtain ⟨owl, owp⟩ := ow
                                simp only at o0 o1
                                by_cases he : (⟨owl, owp⟩ : Hd.H) = ⟨aloc, apax⟩
                                · injection he with he1 he2
                                  subst he1 he2
                                  have hcd : cd = 0 := HCD.out.trans (Hd.freeC_yes hc1 hw)
                                  subst hcd
                                  have HE : Hid (Hd.who l8 ⟨kc, kn, kd, ar, al⟩ = none) := HW8.out.trans (if_pos ⟨rfl, rfl⟩)
                                  clear hc1 HCD HW8
                                  go_wp2
                                  go_meet
                                  exact ⟨l8, ⟨owl, owp⟩, by rw [HE.out]; rfl, HA8, HKo8, (fun h hh => by rw [HE.out] at hh; cases hh), (HKxF.out _ HF8.out).1, (HKxF.out _ HF8.out).2.1, (HKxF.out _ HF8.out).2.2, HBF.out _ HF8.out⟩
                                · by_cases hs : owl = aloc
                                  · subst hs
                                    have hp : owp ≠ apax := fun e => he (by rw [e])
                                    have hp2 : (apax == owp) = false := by simpa using fun e => hp e.symm
                                    have hp3 : (apax != owp) = true := by simpa using fun e => hp e.symm
                                    clear hp
                                    have hcd : cd = 7 := HCD.out.trans (Hd.freeC_not hc1 (by rw [hw]; intro e; injection e with e; exact he e))
                                    subst hcd
                                    have HE : Hid (Hd.who l8 ⟨kc, kn, kd, ar, al⟩ = Hd.who l ⟨kc, kn, kd, ar, al⟩) := HW8.out.trans (if_neg fun h => absurd h.2 (by decide))
                                    clear hc1 he HCD HW8
                                    go_wp2
                                    go_meet
                                    exact ⟨l8, ⟨owl, owp⟩, by rw [HE.out, hw]; rfl, HA8, HKo8, (fun h hh => HOw.out h (by rw [← HE.out]; exact hh)), (HKxF.out _ HF8.out).1, (HKxF.out _ HF8.out).2.1, (HKxF.out _ HF8.out).2.2, HBF.out _ HF8.out⟩
                                  · have hs2 := Fl.str_ne (fun e => hs e.symm)
                                    clear hs
                                    have hcd : cd = 7 := HCD.out.trans (Hd.freeC_not hc1 (by rw [hw]; intro e; injection e with e; exact he e))
                                    subst hcd
                                    have HE : Hid (Hd.who l8 ⟨kc, kn, kd, ar, al⟩ = Hd.who l ⟨kc, kn, kd, ar, al⟩) := HW8.out.trans (if_neg fun h => absurd h.2 (by decide))
                                    clear hc1 he HCD HW8
                                    go_wp2
                                    go_meet
                                    exact ⟨l8, ⟨owl, owp⟩, by rw [HE.out, hw]; rfl, HA8, HKo8, (fun h hh => HOw.out h (by rw [← HE.out]; exact hh)), (HKxF.out _ HF8.out).1, (HKxF.out _ HF8.out).2.1, (HKxF.out _ HF8.out).2.2, HBF.out _ HF8.out⟩
                  case rest =>
                    obtain ⟨wd, ewd⟩ : ∃ wd, wd = wc := ⟨_, rfl⟩
                    subst ewd
                    obtain ⟨lz, ow2, rfl, HA, HKo, HOw2, HK, HKx, HKt, HB⟩ := hcut.out
                    clear hcut y0 y1 q0 q1 q2 q3 q4 q5 q6 q7 q8 l0 l1 l2 s0 s1 HS HKoF HKxF HBF HF0 HF0d HBb HAb HTk HFk HHas HMn
                    have HWh := Lib.hid (who_any Bt p t m A cap rs' gs lz ⟨xc, xn, xd, row, ltr⟩ wd HA.out HKj.out)
                    have hsd := HB.out.size
                    obtain ⟨l0, l1, l3⟩ : wd.cell? ⟨gx, 0, none⟩ = some (.string xc) ∧ wd.cell? ⟨gx, 1, none⟩ = some (.int .i64 xn) ∧ wd.cell? ⟨gx, 2, none⟩ = some (.int .i64 xd) := ⟨HKx.out.cell 0, HKx.out.cell 1, HKx.out.cell 2⟩
                    obtain ⟨s0, s1⟩ : wd.cell? ⟨gt, 0, none⟩ = some (.int .i64 row) ∧ wd.cell? ⟨gt, 1, none⟩ = some (.int .u8 ltr) := ⟨HKt.out.cell 0, HKt.out.cell 1⟩
                    cases hw : Hd.who lz ⟨xc, xn, xd, row, ltr⟩ with
                    | none =>
                        have e1 : Hd.whoH lz ⟨xc, xn, xd, row, ltr⟩ = Hd.h0 := by unfold Hd.whoH; rw [hw]; rfl
                        rw [e1, hw] at HWh
                        unfold Hd.h0 at HWh
                        simp only [Option.isSome_none] at HWh
                        simp only [Option.isSome_none]
                        go_wp2_with (first
                          | (go_at_call 15; refine HWh.out.mono ?_; rintro e w11 ⟨rfl, hb11⟩)
                          | (refine Rw.wpList_alloc rfl 39 rfl [.string ⟨#[]⟩, .int .i64 0] Hd.zH ?_; intro w12 K12 b12 z12; clear z12)
                          | (refine Rw.wpList_store_whole rfl 39 _ _ rfl w11.heap.size rfl [.string ⟨#[]⟩, .int .i64 0] rfl _ _ K12 Hd.iH rfl Hd.one2 ?_; intro w13 K13 f13; have HBd : Hid (Below wd.heap.size wd w13) := (hb11.trans (b12.mono hb11.size)).trans (f13.below (Nat.le_trans hb11.size b12.size) (fun k hk => by have h1 : k = w11.heap.size := hk; have h2 := hb11.size; omega)); have v0 : w13.cell? ⟨w11.heap.size, 0, none⟩ = some (.string ⟨#[]⟩) := K13.cell 0; have v1 : w13.cell? ⟨w11.heap.size, 1, none⟩ = some (.int .i64 0) := K13.cell 1; obtain ⟨o0, o1⟩ : w13.cell? ⟨go, 0, none⟩ = some (.string ow2.loc) ∧ w13.cell? ⟨go, 1, none⟩ = some (.int .i64 ow2.pax) := ⟨(HKo.out.below' HBd.out).cell 0, (HKo.out.below' HBd.out).cell 1⟩; clear K13 f13 K12 b12 hb11 l0 l1 l3 s0 s1))
                        go_roundw
                        case rel => exact ⟨k + 1, lz, ow2, by omega, by rw [hw]; rfl, by go_num, HA.out.kept HBd.out, HKo.out.below' HBd.out, HOw2.out, HK.out.below' HBd.out, HKx.out.below' HBd.out, HKt.out.below' HBd.out, HB.out.trans (HBd.out.mono hsd)⟩
                        case measure => simp [intOf]; omega
                    | some hh =>
                        have e1 : Hd.whoH lz ⟨xc, xn, xd, row, ltr⟩ = hh := by unfold Hd.whoH; rw [hw]; rfl
                        have hho := HOw2.out hh hw
                        subst hho
                        obtain ⟨owl, owp⟩ := ow2
                        rw [e1, hw] at HWh
                        simp only [Option.isSome_some] at HWh
                        simp only [Option.isSome_some]
                        go_wp2_with (first
                          | (go_at_call 15; refine HWh.out.mono ?_; rintro e w11 ⟨rfl, hb11⟩)
                          | (refine Rw.wpList_alloc rfl 39 rfl [.string ⟨#[]⟩, .int .i64 0] Hd.zH ?_; intro w12 K12 b12 z12; clear z12)
                          | (refine Rw.wpList_store_whole rfl 39 _ _ rfl w11.heap.size rfl [.string owl, .int .i64 owp] rfl _ _ K12 Hd.iH rfl Hd.one2 ?_; intro w13 K13 f13; have HBd : Hid (Below wd.heap.size wd w13) := (hb11.trans (b12.mono hb11.size)).trans (f13.below (Nat.le_trans hb11.size b12.size) (fun k hk => by have h1 : k = w11.heap.size := hk; have h2 := hb11.size; omega)); have v0 : w13.cell? ⟨w11.heap.size, 0, none⟩ = some (.string owl) := K13.cell 0; have v1 : w13.cell? ⟨w11.heap.size, 1, none⟩ = some (.int .i64 owp) := K13.cell 1; obtain ⟨o0, o1⟩ : w13.cell? ⟨go, 0, none⟩ = some (.string owl) ∧ w13.cell? ⟨go, 1, none⟩ = some (.int .i64 owp) := ⟨(HKo.out.below' HBd.out).cell 0, (HKo.out.below' HBd.out).cell 1⟩; clear K13 f13 K12 b12 hb11 l0 l1 l3 s0 s1))
                        go_roundw
                        case rel => exact ⟨k + 1, lz, ⟨owl, owp⟩, by omega, by rw [hw]; rfl, by go_num, HA.out.kept HBd.out, HKo.out.below' HBd.out, HOw2.out, HK.out.below' HBd.out, HKx.out.below' HBd.out, HKt.out.below' HBd.out, HB.out.trans (HBd.out.mono hsd)⟩
                        case measure => simp [intOf]; omega
              · go_wp2
                go_ret
                exact ⟨rfl, HB.out⟩
  · have HBg := Lib.hid (fun w (hb : Below W.heap.size W w) => begun_no fA pA rs ps fc pc W.heap.size w (hF.below hb (Nat.le_refl _)) (hP.below hb (Nat.le_refl _)) hb.size hl hl2 hgood)
    clear hF hP hS hoks hgood HF HSc HOks
    generalize rs.length = n at *
    generalize ps.length = n2 at *
    go_enter Tryz.func4, Tryz.ntmps4
    go_wp2_with (first
      | (refine Rw.wpList_box rfl 25 _ rfl [.slice fA n fc, .slice pA n2 pc] rfl ?_; intro w1 K1 b1 z1; have HB1 := Lib.hid b1; have HK1 := Lib.hid K1; have HAw := Lib.hid (awake_any w1); clear z1 b1 K1)
      | (go_at_call 7; refine HAw.out.mono ?_; rintro e w2 ⟨rfl, hb2⟩; have HB2 := Lib.hid (HB1.out.trans (hb2.mono HB1.out.size)); have HK2 := Lib.hid (HK1.out.below' hb2); have c0 : w2.cell? ⟨W.heap.size, 0, none⟩ = some (.slice fA n fc) := HK2.out.cell 0; have c1 : w2.cell? ⟨W.heap.size, 1, none⟩ = some (.slice pA n2 pc) := HK2.out.cell 1; have HBg2 := Lib.hid (HBg.out w2 HB2.out); clear hb2)
      | (go_at_call 8; refine HBg2.out.mono ?_; rintro e w3 ⟨rfl, hb3⟩; have HB3 := Lib.hid (HB2.out.trans (hb3.mono HB2.out.size))))
    go_ret
    exact ⟨rfl, HB3.out⟩
end Go.Proofs.YtfodabbmjggieaaGreat
