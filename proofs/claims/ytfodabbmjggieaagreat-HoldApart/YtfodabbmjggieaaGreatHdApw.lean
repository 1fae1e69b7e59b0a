/- HoldApart's walk. -/
import Derived.Test.YtfodabbmjggieaaGreatHdAp
import Derived.Deep.RegionHeld3
import Derived.Deep.Cut
import Derived.Deep.CutRange
namespace Go.Proofs.YtfodabbmjggieaaGreat
open Go.ChangeShapes Go.WideShapes Go.ChangeAt Go.RowKit
set_option linter.unusedVariables false

set_option maxHeartbeats 16000000 in
set_option maxRecDepth 20000 in
theorem apart_walk (W : World) (x : Fm.Wd) (hx : Fm.WdIn W x) (A1 : Option Addr) (sc : List Hd.A) (cap1 : Nat) (hS : Fm.Acts W W.heap.size A1 sc ∧ sc.length ≤ 9223372036854775807 ∧ ∀ a ∈ sc, Hd.OkA a) (aa : Hd.A) (haa : Hd.OkA aa) (oo : Hd.A) (hoo : Hd.OkA oo) :
    Calls Tryz.prog 6 #[Fm.wv x, .slice A1 sc.length cap1, Hd.av aa, Hd.av oo] W fun e w' => e = .returned (.bool true) ∧ Below W.heap.size W w' := by
  obtain ⟨fA, rs, fc, pA, ps, pc⟩ := x
  unfold Fm.wv
  obtain ⟨hF, hP, hl, hl2⟩ := hx
  obtain ⟨hS, hls, hoks⟩ := hS
  simp only at hF hP hl hl2 ⊢
  have HSc := Lib.hid hS
  have HOks := Lib.hid hoks
  by_cases hgood : Hd.Good rs ∧ Hd.MapsOk ps
  · have HBg := Lib.hid (fun w (hb : Below W.heap.size W w) => begun_ok fA pA rs ps fc pc W.heap.size w (hF.below hb (Nat.le_refl _)) (hP.below hb (Nat.le_refl _)) hb.size hgood.1 hgood.2)
    have HWf := Lib.hid hF.wf
    have HLgA := Lib.hid (fun (a : Hd.A) (ha : Hd.OkA a) w (hb : Below W.heap.size W w) => leg_any fA pA rs ps.length fc pc W.heap.size a w (hF.below hb (Nat.le_refl _)) hb.size hl ha)
    have HKO := Lib.hid (fun (a : Hd.A) (ha : Hd.OkA a) => Hd.keyOf_ok (rs := rs) ha hF.wf)
    have HLga := Lib.hid (HLgA.out aa haa)
    have HLgb := Lib.hid (HLgA.out oo hoo)
    have HKx := Lib.hid (HKO.out aa haa)
    have HKy := Lib.hid (HKO.out oo hoo)
    unfold Hd.keyOf at HKx HKy
    obtain ⟨xx, hxx⟩ : ∃ y, y = Hd.legOf rs aa := ⟨_, rfl⟩
    obtain ⟨yy, hyy⟩ : ∃ y, y = Hd.legOf rs oo := ⟨_, rfl⟩
    rw [← hxx] at HLga HKx
    rw [← hyy] at HLgb HKy
    obtain ⟨xc, xn, xd⟩ := xx
    obtain ⟨yc, yn, yd⟩ := yy
    obtain ⟨ak, af, ac, an, ad, ar, al, aloc, apax⟩ := aa
    obtain ⟨bk, bf, bc, bn, bd, br, bl, bloc, bpax⟩ := oo
    unfold Hd.av at HLga HLgb ⊢
    unfold Hd.mk at HKx HKy
    simp only at HLga HLgb HKx HKy ⊢
    clear hxx hyy haa hoo hF hP hS hoks hgood
    generalize hn : rs.length = n at *
    generalize ps.length = n2 at *
    by_cases hlen : 100 < sc.length
    · have hd : decide (100 < (sc.length : Int)) = true := by simp; omega
      go_enter Tryz.func6, Tryz.ntmps6
      go_wp2_with (first
        | (refine Rw.wpList_box rfl 25 _ rfl [.slice fA n fc, .slice pA n2 pc] rfl ?_; intro w1 K1 b1 z1; have HB1 := Lib.hid b1; have HK1 := Lib.hid K1; clear z1 b1 K1)
        | (have hgd := HKa2; refine Rw.wpList_box rfl 41 _ rfl [.int .i64 bk, .int .i64 bf, .string bc, .int .i64 bn, .int .i64 bd, .int .i64 br, .int .u8 bl, .string bloc, .int .i64 bpax] rfl ?_; intro w3 K3 b3 z3; have HB3 := Lib.hid (HB2.out.trans (b3.mono HB2.out.size)); have HK3 := Lib.hid (HK2.out.below' b3); have HKa3 := Lib.hid (HKa2.out.below' b3); have HKb3 := Lib.hid K3; have HAw := Lib.hid (awake_any w3); clear z3 b3 K3)
        | (refine Rw.wpList_box rfl 41 _ rfl [.int .i64 ak, .int .i64 af, .string ac, .int .i64 an, .int .i64 ad, .int .i64 ar, .int .u8 al, .string aloc, .int .i64 apax] rfl ?_; intro w2 K2 b2 z2; have HB2 := Lib.hid (HB1.out.trans (b2.mono HB1.out.size)); have HK2 := Lib.hid (HK1.out.below' b2); have HKa2 := Lib.hid K2; clear z2 b2 K2)
        | (go_at_call 7; refine HAw.out.mono ?_; rintro e w4 ⟨rfl, hb4⟩; have HB4 := Lib.hid (HB3.out.trans (hb4.mono HB3.out.size)); have HK4 := Lib.hid (HK3.out.below' hb4); have HKa4 := Lib.hid (HKa3.out.below' hb4); have HKb4 := Lib.hid (HKb3.out.below' hb4); have c0 : w4.cell? ⟨W.heap.size, 0, none⟩ = some (.slice fA n fc) := HK4.out.cell 0; have c1 : w4.cell? ⟨W.heap.size, 1, none⟩ = some (.slice pA n2 pc) := HK4.out.cell 1; have HBg4 := Lib.hid (HBg.out w4 HB4.out); clear hb4)
        | (go_at_call 8; refine HBg4.out.mono ?_; rintro e w5 ⟨Bt, p, t, m, A, cap, rs', gs, rfl, hA, hpr, hgs, hBt, hb5⟩; have HB5 := Lib.hid (HB4.out.trans (hb5.mono HB4.out.size)); have HA5 := Lib.hid hA; have HK5 := Lib.hid (HK4.out.below' hb5); have HKa5 := Lib.hid (HKa4.out.below' hb5); have HKb5 := Lib.hid (HKb4.out.below' hb5); have hlom : W.heap.size ≤ m := Nat.le_trans HB4.out.size (Nat.le_trans hBt hA.lom); have hml := hA.map.lt; have hWw := HK4.out.lt; have hlow : W.heap.size < m := Nat.lt_of_lt_of_le hWw (Nat.le_trans hBt hA.lom); have hloa : w1.heap.size < m := Nat.lt_of_lt_of_le HKa4.out.lt (Nat.le_trans hBt hA.lom); have hlob : w2.heap.size < m := Nat.lt_of_lt_of_le HKb4.out.lt (Nat.le_trans hBt hA.lom); clear hA hpr hgs c0 c1 hb5 hBt))
      go_ret
      exact ⟨rfl, HB5.out⟩
    · have hd : decide (100 < (sc.length : Int)) = false := by simp; omega
      go_enter Tryz.func6, Tryz.ntmps6
      go_wp2_with (first
        | (refine Rw.wpList_box rfl 25 _ rfl [.slice fA n fc, .slice pA n2 pc] rfl ?_; intro w1 K1 b1 z1; have HB1 := Lib.hid b1; have HK1 := Lib.hid K1; clear z1 b1 K1)
        | (have hgd := HKa2; refine Rw.wpList_box rfl 41 _ rfl [.int .i64 bk, .int .i64 bf, .string bc, .int .i64 bn, .int .i64 bd, .int .i64 br, .int .u8 bl, .string bloc, .int .i64 bpax] rfl ?_; intro w3 K3 b3 z3; have HB3 := Lib.hid (HB2.out.trans (b3.mono HB2.out.size)); have HK3 := Lib.hid (HK2.out.below' b3); have HKa3 := Lib.hid (HKa2.out.below' b3); have HKb3 := Lib.hid K3; have HAw := Lib.hid (awake_any w3); clear z3 b3 K3)
        | (refine Rw.wpList_box rfl 41 _ rfl [.int .i64 ak, .int .i64 af, .string ac, .int .i64 an, .int .i64 ad, .int .i64 ar, .int .u8 al, .string aloc, .int .i64 apax] rfl ?_; intro w2 K2 b2 z2; have HB2 := Lib.hid (HB1.out.trans (b2.mono HB1.out.size)); have HK2 := Lib.hid (HK1.out.below' b2); have HKa2 := Lib.hid K2; clear z2 b2 K2)
        | (go_at_call 7; refine HAw.out.mono ?_; rintro e w4 ⟨rfl, hb4⟩; have HB4 := Lib.hid (HB3.out.trans (hb4.mono HB3.out.size)); have HK4 := Lib.hid (HK3.out.below' hb4); have HKa4 := Lib.hid (HKa3.out.below' hb4); have HKb4 := Lib.hid (HKb3.out.below' hb4); have c0 : w4.cell? ⟨W.heap.size, 0, none⟩ = some (.slice fA n fc) := HK4.out.cell 0; have c1 : w4.cell? ⟨W.heap.size, 1, none⟩ = some (.slice pA n2 pc) := HK4.out.cell 1; have HBg4 := Lib.hid (HBg.out w4 HB4.out); clear hb4)
        | (go_at_call 8; refine HBg4.out.mono ?_; rintro e w5 ⟨Bt, p, t, m, A, cap, rs', gs, rfl, hA, hpr, hgs, hBt, hb5⟩; have HB5 := Lib.hid (HB4.out.trans (hb5.mono HB4.out.size)); have HA5 := Lib.hid hA; have HK5 := Lib.hid (HK4.out.below' hb5); have HKa5 := Lib.hid (HKa4.out.below' hb5); have HKb5 := Lib.hid (HKb4.out.below' hb5); have hlom : W.heap.size ≤ m := Nat.le_trans HB4.out.size (Nat.le_trans hBt hA.lom); have hml := hA.map.lt; have hWw := HK4.out.lt; have hlow : W.heap.size < m := Nat.lt_of_lt_of_le hWw (Nat.le_trans hBt hA.lom); have hloa : w1.heap.size < m := Nat.lt_of_lt_of_le HKa4.out.lt (Nat.le_trans hBt hA.lom); have hlob : w2.heap.size < m := Nat.lt_of_lt_of_le HKb4.out.lt (Nat.le_trans hBt hA.lom); clear hA hpr hgs c0 c1 hb5 hBt))
      obtain ⟨ga, hga⟩ : ∃ g, g = w1.heap.size := ⟨_, rfl⟩
      obtain ⟨gb, hgb⟩ : ∃ g, g = w2.heap.size := ⟨_, rfl⟩
      rw [← hga] at HKa5 hloa ⊢
      rw [← hgb] at HKb5 hlob ⊢
      clear HK1 HK2 HK3 HK4 HKa2 HKa3 HKb3 HKa4 HKb4 HB1 HB2 HB3 HB4 HBg HBg4 HAw hga hgb hWw hml
      go_loopw [11] (fun s11 wr => ∃ (k : Nat) (l : List (Hd.K × Hd.H)), k ≤ sc.length ∧ s11 = .int .i64 k ∧ Hid (Hd.At wr Bt p t m A cap rs' gs l) ∧ Hid (Rw.Blk wr W.heap.size 25 [.slice fA n fc, .slice pA n2 pc]) ∧ Hid (Rw.Blk wr ga 41 [.int .i64 ak, .int .i64 af, .string ac, .int .i64 an, .int .i64 ad, .int .i64 ar, .int .u8 al, .string aloc, .int .i64 apax]) ∧ Hid (Rw.Blk wr gb 41 [.int .i64 bk, .int .i64 bf, .string bc, .int .i64 bn, .int .i64 bd, .int .i64 br, .int .u8 bl, .string bloc, .int .i64 bpax]) ∧ Hid (Below W.heap.size W wr)) (fun i _ => sc.length - (intOf i).toNat)
      case atStart => exact ⟨0, [], by omega, rfl, HA5, HK5, HKa5, HKb5, HB5⟩
      case round =>
        obtain ⟨wx, ewx⟩ : ∃ x, x = wr := ⟨_, rfl⟩
        subst ewx
        obtain ⟨k, l, hk, rfl, HA, HK, HKa, HKb, HB⟩ := hrel
        have hsx := HB.out.size
        clear HA5 HK5 HKa5 HKb5 HB5
        by_cases hlt : k < sc.length
        · obtain ⟨b, off, hA1, hbB, hrow⟩ := HSc.out (by omega)
          subst hA1
          have HRk : Hid (∀ w', Below W.heap.size W w' → w'.rangeAt b (off + k * 9) (Hd.acs sc[k])) := fun w' hb q v hv => (hb.cell (p := ⟨b, _, none⟩) hbB).trans (hrow k hlt q v hv)
          have HOk := Lib.hid (HOks.out _ (List.getElem_mem hlt))
          generalize sc[k] = a at *
          have HLg := Lib.hid (HLgA.out a HOk.out)
          have HKk := Lib.hid (HKO.out a HOk.out)
          obtain ⟨kk, hkk⟩ : ∃ y, y = Hd.legOf rs a := ⟨_, rfl⟩
          unfold Hd.keyOf at HKk
          rw [← hkk] at HLg HKk
          obtain ⟨kc, kn, kd⟩ := kk
          obtain ⟨sk, sf, sc0, sn, sd, sr, sl, sloc, spax⟩ := a
          unfold Hd.av at HLg
          simp only at HLg HKk HRk
          have HBF : Hid (∀ w', Rw.Fr (· = m) wx w' → Below W.heap.size W w') := fun w' hf => HB.out.trans (hf.below hsx (fun k hk => by have : k = m := hk; omega))
          have HS : Hid (∀ w', Rw.Fr (· = m) wx w' → w'.cell? ⟨W.heap.size, 0, none⟩ = some (.slice fA n fc) ∧ w'.cell? ⟨W.heap.size, 1, none⟩ = some (.slice pA n2 pc) ∧ w'.cell? ⟨b, off + k * 9, none⟩ = some (.int .i64 sk) ∧ w'.cell? ⟨b, off + k * 9 + 1, none⟩ = some (.int .i64 sf) ∧ w'.cell? ⟨b, off + k * 9 + 2, none⟩ = some (.string sc0) ∧ w'.cell? ⟨b, off + k * 9 + 3, none⟩ = some (.int .i64 sn) ∧ w'.cell? ⟨b, off + k * 9 + 4, none⟩ = some (.int .i64 sd) ∧ w'.cell? ⟨b, off + k * 9 + 5, none⟩ = some (.int .i64 sr) ∧ w'.cell? ⟨b, off + k * 9 + 6, none⟩ = some (.int .u8 sl) ∧ w'.cell? ⟨b, off + k * 9 + 7, none⟩ = some (.string sloc) ∧ w'.cell? ⟨b, off + k * 9 + 8, none⟩ = some (.int .i64 spax)) := fun w' hf => by
            have ky := HK.out.kept (hf.block _ HK.out.lt (show ¬ (W.heap.size = m) by omega))
            obtain ⟨q0, q1, q2, q3, q4, q5, q6, q7, q8⟩ := Hd.acts_cells (HRk.out w' (HBF.out w' hf))
            exact ⟨ky.cell 0, ky.cell 1, q0, q1, q2, q3, q4, q5, q6, q7, q8⟩
          obtain ⟨y0, y1, q0, q1, q2, q3, q4, q5, q6, q7, q8⟩ := HS.out wx (Rw.Fr.refl _ _)
          clear hkk HOk hrow
          by_cases hkd : sk = 0
          · have hkd1 : (sk == 0) = true := by simp [hkd]
            clear hkd
            have HF0d : Hid (Rw.Fr (· = m) wx wx.drew) := Rw.Fr.of_below (Below.refl _ _).drew
            have HTk := Lib.hid (fun w (hA : Hd.At w Bt p t m A cap rs' gs l) => take_any Bt p t m A cap rs' gs l (Hd.mk ⟨kc, kn, kd⟩ (sr, sl)) ⟨sloc, spax⟩ w hA HKk.out)
            unfold Hd.mk at HTk
            simp only at HTk
            go_wp2
            go_region_held3 (fun w' => w'.cell? ⟨W.heap.size, 0, none⟩ = some (.slice fA n fc) ∧ w'.cell? ⟨W.heap.size, 1, none⟩ = some (.slice pA n2 pc) ∧ w'.cell? ⟨b, off + k * 9, none⟩ = some (.int .i64 sk) ∧ w'.cell? ⟨b, off + k * 9 + 1, none⟩ = some (.int .i64 sf) ∧ w'.cell? ⟨b, off + k * 9 + 2, none⟩ = some (.string sc0) ∧ w'.cell? ⟨b, off + k * 9 + 3, none⟩ = some (.int .i64 sn) ∧ w'.cell? ⟨b, off + k * 9 + 4, none⟩ = some (.int .i64 sd) ∧ w'.cell? ⟨b, off + k * 9 + 5, none⟩ = some (.int .i64 sr) ∧ w'.cell? ⟨b, off + k * 9 + 6, none⟩ = some (.int .u8 sl) ∧ w'.cell? ⟨b, off + k * 9 + 7, none⟩ = some (.string sloc) ∧ w'.cell? ⟨b, off + k * 9 + 8, none⟩ = some (.int .i64 spax)) (first | exact HS.out _ HF0d.out | exact HS.out _ HF7.out | exact HS.out _ HF8.out) (first
              | (go_at_call 9; refine (HLg.out _ (HBF.out _ HF0d.out)).mono ?_; rintro e w7 ⟨rfl, hb7⟩; have HB67 : Hid (Below wx.heap.size wx w7) := (Below.refl _ _).drew.trans hb7; have HF7 := Lib.hid (HF0d.out.trans (Rw.Fr.of_below (F := fun _ => False) hb7) (fun _ _ (e : False) => e.elim)); have HA7 := Lib.hid (HA.out.kept HB67.out); have HT7 := Lib.hid (HTk.out w7 HA7.out); clear hb7)
              | (go_at_call 12; refine HT7.out.mono ?_; rintro e w8 hT8; obtain ⟨rfl, l8, hA8, hf8, hw8, _⟩ := Hd.take_who HA7.out hT8; have HA8 := Lib.hid hA8; have HF8 := Lib.hid (HF7.out.trans hf8 (fun _ _ e => e)); clear hT8 hA8 hf8 hw8))
            go_wp2
            go_roundw
            case rel => exact ⟨k + 1, l8, by omega, by go_num, HA8, HK.out.kept (HF8.out.block _ HK.out.lt (show ¬ (W.heap.size = m) by omega)), HKa.out.kept (HF8.out.block _ HKa.out.lt (show ¬ (ga = m) by omega)), HKb.out.kept (HF8.out.block _ HKb.out.lt (show ¬ (gb = m) by omega)), HBF.out _ HF8.out⟩
            case measure => simp [intOf]; omega
          · have hkd1 : (sk == 0) = false := by simp [hkd]
            clear hkd
            go_wp2
            go_roundw
            case rel => exact ⟨k + 1, l, by omega, by go_num, HA, HK, HKa, HKb, HB⟩
            case measure => simp [intOf]; omega
        · have HCp := Lib.hid (hcopy_any Bt p t m A cap rs' gs l wx HA.out)
          have hgal := HKa.out.lt
          have hgbl := HKb.out.lt
          go_wp2_with (first
            | (go_at_call 24; refine HCp.out.mono ?_; rintro e w6 ⟨p2, m2, rfl, hC6, hp2, hm2, hb6⟩; have HA6 := Lib.hid (HA.out.kept hb6); have HC6 := Lib.hid hC6; have HK6 := Lib.hid (HK.out.below' hb6); have HKa6 := Lib.hid (HKa.out.below' hb6); have HKb6 := Lib.hid (HKb.out.below' hb6); have HB6 := Lib.hid (HB.out.trans (hb6.mono hsx)); have hmne : m ≠ m2 := Nat.ne_of_lt (Nat.lt_of_lt_of_le HA.out.map.lt hm2); have hlw2 : W.heap.size ≤ m2 := Nat.le_trans hsx hm2; clear hC6 hp2 hm2 hb6))
          clear HA HK HKa HKb HB hk hlt
          have HS14 : Hid (∀ w', Below w6.heap.size w6 w' → w'.cell? ⟨W.heap.size, 0, none⟩ = some (.slice fA n fc) ∧ w'.cell? ⟨W.heap.size, 1, none⟩ = some (.slice pA n2 pc) ∧ w'.cell? ⟨ga, 0, none⟩ = some (.int .i64 ak) ∧ w'.cell? ⟨ga, 1, none⟩ = some (.int .i64 af) ∧ w'.cell? ⟨ga, 2, none⟩ = some (.string ac) ∧ w'.cell? ⟨ga, 3, none⟩ = some (.int .i64 an) ∧ w'.cell? ⟨ga, 4, none⟩ = some (.int .i64 ad) ∧ w'.cell? ⟨ga, 5, none⟩ = some (.int .i64 ar) ∧ w'.cell? ⟨ga, 6, none⟩ = some (.int .u8 al) ∧ w'.cell? ⟨ga, 7, none⟩ = some (.string aloc) ∧ w'.cell? ⟨ga, 8, none⟩ = some (.int .i64 apax) ∧ w'.cell? ⟨gb, 0, none⟩ = some (.int .i64 bk) ∧ w'.cell? ⟨gb, 1, none⟩ = some (.int .i64 bf) ∧ w'.cell? ⟨gb, 2, none⟩ = some (.string bc) ∧ w'.cell? ⟨gb, 3, none⟩ = some (.int .i64 bn) ∧ w'.cell? ⟨gb, 4, none⟩ = some (.int .i64 bd) ∧ w'.cell? ⟨gb, 5, none⟩ = some (.int .i64 br) ∧ w'.cell? ⟨gb, 6, none⟩ = some (.int .u8 bl) ∧ w'.cell? ⟨gb, 7, none⟩ = some (.string bloc) ∧ w'.cell? ⟨gb, 8, none⟩ = some (.int .i64 bpax)) := fun w' hb => by
            have ky := HK6.out.below' hb
            have ka := HKa6.out.below' hb
            have kb := HKb6.out.below' hb
            exact ⟨ky.cell 0, ky.cell 1, ka.cell 0, ka.cell 1, ka.cell 2, ka.cell 3, ka.cell 4, ka.cell 5, ka.cell 6, ka.cell 7, ka.cell 8, kb.cell 0, kb.cell 1, kb.cell 2, kb.cell 3, kb.cell 4, kb.cell 5, kb.cell 6, kb.cell 7, kb.cell 8⟩
          go_cut [13, 14] from 21 (fun s13 s14 wx => Hid (∃ gx gy : Nat, s13 = .pointer (some ⟨gx, 0, none⟩) ∧ s14 = .pointer (some ⟨gy, 0, none⟩) ∧ Rw.Blk wx gx 35 (Hd.encL ⟨xc, xn, xd⟩) ∧ Rw.Blk wx gy 35 (Hd.encL ⟨yc, yn, yd⟩) ∧ Below w6.heap.size w6 wx))
          case first =>
            as_aux_lemma =>
            refine wp_region_noPanic ?_
            refine wp_region_held_drew (S := fun w' => w'.cell? ⟨W.heap.size, 0, none⟩ = some (.slice fA n fc) ∧ w'.cell? ⟨W.heap.size, 1, none⟩ = some (.slice pA n2 pc) ∧ w'.cell? ⟨ga, 0, none⟩ = some (.int .i64 ak) ∧ w'.cell? ⟨ga, 1, none⟩ = some (.int .i64 af) ∧ w'.cell? ⟨ga, 2, none⟩ = some (.string ac) ∧ w'.cell? ⟨ga, 3, none⟩ = some (.int .i64 an) ∧ w'.cell? ⟨ga, 4, none⟩ = some (.int .i64 ad) ∧ w'.cell? ⟨ga, 5, none⟩ = some (.int .i64 ar) ∧ w'.cell? ⟨ga, 6, none⟩ = some (.int .u8 al) ∧ w'.cell? ⟨ga, 7, none⟩ = some (.string aloc) ∧ w'.cell? ⟨ga, 8, none⟩ = some (.int .i64 apax) ∧ w'.cell? ⟨gb, 0, none⟩ = some (.int .i64 bk) ∧ w'.cell? ⟨gb, 1, none⟩ = some (.int .i64 bf) ∧ w'.cell? ⟨gb, 2, none⟩ = some (.string bc) ∧ w'.cell? ⟨gb, 3, none⟩ = some (.int .i64 bn) ∧ w'.cell? ⟨gb, 4, none⟩ = some (.int .i64 bd) ∧ w'.cell? ⟨gb, 5, none⟩ = some (.int .i64 br) ∧ w'.cell? ⟨gb, 6, none⟩ = some (.int .u8 bl) ∧ w'.cell? ⟨gb, 7, none⟩ = some (.string bloc) ∧ w'.cell? ⟨gb, 8, none⟩ = some (.int .i64 bpax)) (by kernel_rfl) (HS14.out _ (Below.refl _ _).drew) (fun hHeld => ?_)
            refine wpAnyH_take (i := 0) (oi := ⟨(some 69), _, _, _, _, _⟩) (v := ?_) rfl (by kernel_rfl) (by kernel_rfl) (by kernel_rfl) (fun _ _ _ h => h) (Or.inl ⟨by rfl, ?_⟩) (by assumption) ?_
            rotate_left
            · (intro w hSw; (try dsimp only at hSw); go_simp <;> with_reducible rfl)
            try simp only [Act.put]
            try simp only [List.setIfInBounds_toArray]
            try simp only [List.set_cons_succ]
            try simp only [List.set_cons_zero]
            refine wpAnyH_take (i := 1) (oi := ⟨(some 70), _, _, _, _, _⟩) (v := ?_) rfl (by kernel_rfl) (by kernel_rfl) (by kernel_rfl) (fun _ _ _ h => h) (Or.inl ⟨by rfl, ?_⟩) (by assumption) ?_
            rotate_left
            · (intro w hSw; (try dsimp only at hSw); go_simp <;> with_reducible rfl)
            try simp only [Act.put]
            try simp only [List.setIfInBounds_toArray]
            try simp only [List.set_cons_succ]
            try simp only [List.set_cons_zero]
            refine wpAnyH_take (i := 3) (oi := ⟨(some 72), _, _, _, _, _⟩) (v := ?_) rfl (by kernel_rfl) (by kernel_rfl) (by kernel_rfl) (fun _ _ _ h => h) (Or.inl ⟨by rfl, ?_⟩) (by assumption) ?_
            rotate_left
            · (intro w hSw; (try dsimp only at hSw); go_simp <;> with_reducible rfl)
            try simp only [Act.put]
            try simp only [List.setIfInBounds_toArray]
            try simp only [List.set_cons_succ]
            try simp only [List.set_cons_zero]
            refine wpAnyH_take (i := 4) (oi := ⟨(some 73), _, _, _, _, _⟩) (v := ?_) rfl (by kernel_rfl) (by kernel_rfl) (by kernel_rfl) (fun _ _ _ h => h) (Or.inl ⟨by rfl, ?_⟩) (by assumption) ?_
            rotate_left
            · (intro w hSw; (try dsimp only at hSw); go_simp <;> with_reducible rfl)
            try simp only [Act.put]
            try simp only [List.setIfInBounds_toArray]
            try simp only [List.set_cons_succ]
            try simp only [List.set_cons_zero]
            refine wpAnyH_ready (rs := [2, 6, 7]) (by kernel_rfl) (by simp) ?_
            refine AllReadyH.cons (o := ⟨(some 71), _, _, _, _, _⟩) rfl (fun K hK => ?_) (AllReadyH.cons (o := ⟨(some 13), _, _, _, _, _⟩) rfl (fun K hK => ?_) (AllReadyH.cons (o := ⟨(some 14), _, _, _, _, _⟩) rfl (fun K hK => ?_) (AllReadyH.nil)))
            · go_simp
              go_at_call 9
              refine (HLga.out _ (HB6.out.trans (Below.mono ((Below.refl w6.heap.size w6).drew) HB6.out.size))).mono ?_
              rintro e wz1 ⟨rfl, hb1⟩
              have bz1 : Below w6.heap.size w6 wz1 := Below.trans ((Below.refl w6.heap.size w6).drew) (Below.mono hb1 (Nat.le_refl _))
              go_wp2_with fail
              refine hK.out _ _ ?_ (fun hHeld2 => ?_)
              · exact HS14.out _ bz1
              clear hK K
              try simp only [Act.put]
              try simp only [List.setIfInBounds_toArray]
              try simp only [List.set_cons_succ]
              try simp only [List.set_cons_zero]
              refine wpAnyH_ready (rs := [5, 6, 7]) (by kernel_rfl) (by simp) ?_
              refine AllReadyH.cons (o := ⟨(some 74), _, _, _, _, _⟩) rfl (fun K hK => ?_) (AllReadyH.cons (o := ⟨(some 13), _, _, _, _, _⟩) rfl (fun K hK => ?_) (AllReadyH.cons (o := ⟨(some 14), _, _, _, _, _⟩) rfl (fun K hK => ?_) (AllReadyH.nil)))
              · go_simp
                go_at_call 9
                refine (HLgb.out _ (HB6.out.trans (Below.mono (bz1) HB6.out.size))).mono ?_
                rintro e wz2 ⟨rfl, hb2⟩
                have bz2 : Below w6.heap.size w6 wz2 := Below.trans (bz1) (Below.mono hb2 (Below.size bz1))
                go_wp2_with fail
                refine hK.out _ _ ?_ (fun hHeld2 => ?_)
                · exact HS14.out _ bz2
                clear hK K
                try simp only [Act.put]
                try simp only [List.setIfInBounds_toArray]
                try simp only [List.set_cons_succ]
                try simp only [List.set_cons_zero]
                refine wpAnyH_ready (rs := [6, 7]) (by kernel_rfl) (by simp) ?_
                refine AllReadyH.cons (o := ⟨(some 13), _, _, _, _, _⟩) rfl (fun K hK => ?_) (AllReadyH.cons (o := ⟨(some 14), _, _, _, _, _⟩) rfl (fun K hK => ?_) (AllReadyH.nil))
                · refine Rw.wp_alloc 35 rfl (Hd.encL ⟨⟨#[]⟩, 0, 0⟩) Hd.zLeg ?_
                  intro wz3 ka3 ba3 za3
                  have bz3 : Below w6.heap.size w6 wz3 := Below.trans (bz2) (Below.mono ba3 (Below.size bz2))
                  clear za3
                  refine hK.out _ _ ?_ (fun hHeld2 => ?_)
                  · exact HS14.out _ bz3
                  clear hK K
                  try simp only [Act.put]
                  try simp only [List.setIfInBounds_toArray]
                  try simp only [List.set_cons_succ]
                  try simp only [List.set_cons_zero]
                  refine wpAnyH_ready (rs := [7]) (by kernel_rfl) (by simp) ?_
                  refine AllReadyH.cons (o := ⟨(some 14), _, _, _, _, _⟩) rfl (fun K hK => ?_) (AllReadyH.nil)
                  refine Rw.wp_alloc 35 rfl (Hd.encL ⟨⟨#[]⟩, 0, 0⟩) Hd.zLeg ?_
                  intro wz4 ka4 ba4 za4
                  have bz4 : Below w6.heap.size w6 wz4 := Below.trans (bz3) (Below.mono ba4 (Below.size bz3))
                  clear za4
                  have hne4 : wz2.heap.size ≠ wz3.heap.size := Nat.ne_of_lt ka3.lt
                  have kz4_6 := ka3.below' ba4
                  refine hK.out _ _ ?_ (fun hHeld2 => ?_)
                  · exact HS14.out _ bz4
                  clear hK K
                  try simp only [Act.put]
                  try simp only [List.setIfInBounds_toArray]
                  try simp only [List.set_cons_succ]
                  try simp only [List.set_cons_zero]
                  refine wpAnyH_ready (rs := [8]) (by kernel_rfl) (by simp) ?_
                  refine AllReadyH.cons (o := ⟨none, _, _, _, _, _⟩) rfl (fun K hK => ?_) (AllReadyH.nil)
                  refine Rw.wp_store_whole 35 (.tmp 13) (.tmp 71) rfl _ rfl (Hd.encL ⟨xc, xn, xd⟩) rfl _ _ kz4_6 Hd.iLeg rfl (Hd.encL_one _) ?_
                  intro wz5 ka5 fa5
                  have bz5 : Below w6.heap.size w6 wz5 := Below.trans (bz4) (fa5.below (Below.size bz4) (fun k hk => Nat.le_trans (Below.size bz2) (Nat.le_of_eq hk.symm)))
                  have kz5_7 := ka4.kept (fa5.block _ ka4.lt (show ¬ (wz3.heap.size = wz2.heap.size) by omega))
                  refine hK.out _ _ ?_ (fun hHeld2 => ?_)
                  · exact HS14.out _ bz5
                  clear hK K
                  try simp only [Act.put]
                  try simp only [List.setIfInBounds_toArray]
                  try simp only [List.set_cons_succ]
                  try simp only [List.set_cons_zero]
                  refine wpAnyH_ready (rs := [9]) (by kernel_rfl) (by simp) ?_
                  refine AllReadyH.cons (o := ⟨none, _, _, _, _, _⟩) rfl (fun K hK => ?_) (AllReadyH.nil)
                  refine Rw.wp_store_whole 35 (.tmp 14) (.tmp 74) rfl _ rfl (Hd.encL ⟨yc, yn, yd⟩) rfl _ _ kz5_7 Hd.iLeg rfl (Hd.encL_one _) ?_
                  intro wz6 ka6 fa6
                  have bz6 : Below w6.heap.size w6 wz6 := Below.trans (bz5) (fa6.below (Below.size bz5) (fun k hk => Nat.le_trans (Below.size bz3) (Nat.le_of_eq hk.symm)))
                  have kz6_6 := ka5.kept (fa6.block _ ka5.lt (show ¬ (wz2.heap.size = wz3.heap.size) by omega))
                  refine hK.out _ _ ?_ (fun hHeld2 => ?_)
                  · exact HS14.out _ bz6
                  clear hK K
                  try simp only [Act.put]
                  try simp only [List.setIfInBounds_toArray]
                  try simp only [List.set_cons_succ]
                  try simp only [List.set_cons_zero]
                  refine wpAnyH_done (by kernel_rfl) ?_ _
                  refine NoPanic.normal ?_
                  go_wp2
                  go_meet
                  exact ⟨_, _, rfl, rfl, kz6_6, ka6, bz6⟩
                · refine Rw.wp_alloc 35 rfl (Hd.encL ⟨⟨#[]⟩, 0, 0⟩) Hd.zLeg ?_
                  intro wz7 ka7 ba7 za7
                  have bz7 : Below w6.heap.size w6 wz7 := Below.trans (bz2) (Below.mono ba7 (Below.size bz2))
                  clear za7
                  refine hK.out _ _ ?_ (fun hHeld2 => ?_)
                  · exact HS14.out _ bz7
                  clear hK K
                  try simp only [Act.put]
                  try simp only [List.setIfInBounds_toArray]
                  try simp only [List.set_cons_succ]
                  try simp only [List.set_cons_zero]
                  refine wpAnyH_ready (rs := [6]) (by kernel_rfl) (by simp) ?_
                  refine AllReadyH.cons (o := ⟨(some 13), _, _, _, _, _⟩) rfl (fun K hK => ?_) (AllReadyH.nil)
                  refine Rw.wp_alloc 35 rfl (Hd.encL ⟨⟨#[]⟩, 0, 0⟩) Hd.zLeg ?_
                  intro wz8 ka8 ba8 za8
                  have bz8 : Below w6.heap.size w6 wz8 := Below.trans (bz7) (Below.mono ba8 (Below.size bz7))
                  clear za8
                  have hne8 : wz2.heap.size ≠ wz7.heap.size := Nat.ne_of_lt ka7.lt
                  have kz8_7 := ka7.below' ba8
                  refine hK.out _ _ ?_ (fun hHeld2 => ?_)
                  · exact HS14.out _ bz8
                  clear hK K
                  try simp only [Act.put]
                  try simp only [List.setIfInBounds_toArray]
                  try simp only [List.set_cons_succ]
                  try simp only [List.set_cons_zero]
                  refine wpAnyH_ready (rs := [8]) (by kernel_rfl) (by simp) ?_
                  refine AllReadyH.cons (o := ⟨none, _, _, _, _, _⟩) rfl (fun K hK => ?_) (AllReadyH.nil)
                  refine Rw.wp_store_whole 35 (.tmp 13) (.tmp 71) rfl _ rfl (Hd.encL ⟨xc, xn, xd⟩) rfl _ _ ka8 Hd.iLeg rfl (Hd.encL_one _) ?_
                  intro wz9 ka9 fa9
                  have bz9 : Below w6.heap.size w6 wz9 := Below.trans (bz8) (fa9.below (Below.size bz8) (fun k hk => Nat.le_trans (Below.size bz7) (Nat.le_of_eq hk.symm)))
                  have kz9_7 := kz8_7.kept (fa9.block _ kz8_7.lt (show ¬ (wz2.heap.size = wz7.heap.size) by omega))
                  refine hK.out _ _ ?_ (fun hHeld2 => ?_)
                  · exact HS14.out _ bz9
                  clear hK K
                  try simp only [Act.put]
                  try simp only [List.setIfInBounds_toArray]
                  try simp only [List.set_cons_succ]
                  try simp only [List.set_cons_zero]
                  refine wpAnyH_ready (rs := [9]) (by kernel_rfl) (by simp) ?_
                  refine AllReadyH.cons (o := ⟨none, _, _, _, _, _⟩) rfl (fun K hK => ?_) (AllReadyH.nil)
                  refine Rw.wp_store_whole 35 (.tmp 14) (.tmp 74) rfl _ rfl (Hd.encL ⟨yc, yn, yd⟩) rfl _ _ kz9_7 Hd.iLeg rfl (Hd.encL_one _) ?_
                  intro wz10 ka10 fa10
                  have bz10 : Below w6.heap.size w6 wz10 := Below.trans (bz9) (fa10.below (Below.size bz9) (fun k hk => Nat.le_trans (Below.size bz2) (Nat.le_of_eq hk.symm)))
                  have kz10_6 := ka9.kept (fa10.block _ ka9.lt (show ¬ (wz7.heap.size = wz2.heap.size) by omega))
                  refine hK.out _ _ ?_ (fun hHeld2 => ?_)
                  · exact HS14.out _ bz10
                  clear hK K
                  try simp only [Act.put]
                  try simp only [List.setIfInBounds_toArray]
                  try simp only [List.set_cons_succ]
                  try simp only [List.set_cons_zero]
                  refine wpAnyH_done (by kernel_rfl) ?_ _
                  refine NoPanic.normal ?_
                  go_wp2
                  go_meet
                  exact ⟨_, _, rfl, rfl, kz10_6, ka10, bz10⟩
              · refine Rw.wp_alloc 35 rfl (Hd.encL ⟨⟨#[]⟩, 0, 0⟩) Hd.zLeg ?_
                intro wz11 ka11 ba11 za11
                have bz11 : Below w6.heap.size w6 wz11 := Below.trans (bz1) (Below.mono ba11 (Below.size bz1))
                clear za11
                refine hK.out _ _ ?_ (fun hHeld2 => ?_)
                · exact HS14.out _ bz11
                clear hK K
                try simp only [Act.put]
                try simp only [List.setIfInBounds_toArray]
                try simp only [List.set_cons_succ]
                try simp only [List.set_cons_zero]
                refine wpAnyH_ready (rs := [5, 7]) (by kernel_rfl) (by simp) ?_
                refine AllReadyH.cons (o := ⟨(some 74), _, _, _, _, _⟩) rfl (fun K hK => ?_) (AllReadyH.cons (o := ⟨(some 14), _, _, _, _, _⟩) rfl (fun K hK => ?_) (AllReadyH.nil))
                · go_simp
                  go_at_call 9
                  refine (HLgb.out _ (HB6.out.trans (Below.mono (bz11) HB6.out.size))).mono ?_
                  rintro e wz12 ⟨rfl, hb12⟩
                  have bz12 : Below w6.heap.size w6 wz12 := Below.trans (bz11) (Below.mono hb12 (Below.size bz11))
                  have kz12_6 := ka11.below' hb12
                  go_wp2_with fail
                  refine hK.out _ _ ?_ (fun hHeld2 => ?_)
                  · exact HS14.out _ bz12
                  clear hK K
                  try simp only [Act.put]
                  try simp only [List.setIfInBounds_toArray]
                  try simp only [List.set_cons_succ]
                  try simp only [List.set_cons_zero]
                  refine wpAnyH_ready (rs := [7]) (by kernel_rfl) (by simp) ?_
                  refine AllReadyH.cons (o := ⟨(some 14), _, _, _, _, _⟩) rfl (fun K hK => ?_) (AllReadyH.nil)
                  refine Rw.wp_alloc 35 rfl (Hd.encL ⟨⟨#[]⟩, 0, 0⟩) Hd.zLeg ?_
                  intro wz13 ka13 ba13 za13
                  have bz13 : Below w6.heap.size w6 wz13 := Below.trans (bz12) (Below.mono ba13 (Below.size bz12))
                  clear za13
                  have hne13 : wz1.heap.size ≠ wz12.heap.size := Nat.ne_of_lt kz12_6.lt
                  have kz13_6 := kz12_6.below' ba13
                  refine hK.out _ _ ?_ (fun hHeld2 => ?_)
                  · exact HS14.out _ bz13
                  clear hK K
                  try simp only [Act.put]
                  try simp only [List.setIfInBounds_toArray]
                  try simp only [List.set_cons_succ]
                  try simp only [List.set_cons_zero]
                  refine wpAnyH_ready (rs := [8]) (by kernel_rfl) (by simp) ?_
                  refine AllReadyH.cons (o := ⟨none, _, _, _, _, _⟩) rfl (fun K hK => ?_) (AllReadyH.nil)
                  refine Rw.wp_store_whole 35 (.tmp 13) (.tmp 71) rfl _ rfl (Hd.encL ⟨xc, xn, xd⟩) rfl _ _ kz13_6 Hd.iLeg rfl (Hd.encL_one _) ?_
                  intro wz14 ka14 fa14
                  have bz14 : Below w6.heap.size w6 wz14 := Below.trans (bz13) (fa14.below (Below.size bz13) (fun k hk => Nat.le_trans (Below.size bz1) (Nat.le_of_eq hk.symm)))
                  have kz14_7 := ka13.kept (fa14.block _ ka13.lt (show ¬ (wz12.heap.size = wz1.heap.size) by omega))
                  refine hK.out _ _ ?_ (fun hHeld2 => ?_)
                  · exact HS14.out _ bz14
                  clear hK K
                  try simp only [Act.put]
                  try simp only [List.setIfInBounds_toArray]
                  try simp only [List.set_cons_succ]
                  try simp only [List.set_cons_zero]
                  refine wpAnyH_ready (rs := [9]) (by kernel_rfl) (by simp) ?_
                  refine AllReadyH.cons (o := ⟨none, _, _, _, _, _⟩) rfl (fun K hK => ?_) (AllReadyH.nil)
                  refine Rw.wp_store_whole 35 (.tmp 14) (.tmp 74) rfl _ rfl (Hd.encL ⟨yc, yn, yd⟩) rfl _ _ kz14_7 Hd.iLeg rfl (Hd.encL_one _) ?_
                  intro wz15 ka15 fa15
                  have bz15 : Below w6.heap.size w6 wz15 := Below.trans (bz14) (fa15.below (Below.size bz14) (fun k hk => Nat.le_trans (Below.size bz12) (Nat.le_of_eq hk.symm)))
                  have kz15_6 := ka14.kept (fa15.block _ ka14.lt (show ¬ (wz1.heap.size = wz12.heap.size) by omega))
                  refine hK.out _ _ ?_ (fun hHeld2 => ?_)
                  · exact HS14.out _ bz15
                  clear hK K
                  try simp only [Act.put]
                  try simp only [List.setIfInBounds_toArray]
                  try simp only [List.set_cons_succ]
                  try simp only [List.set_cons_zero]
                  refine wpAnyH_done (by kernel_rfl) ?_ _
                  refine NoPanic.normal ?_
                  go_wp2
                  go_meet
                  exact ⟨_, _, rfl, rfl, kz15_6, ka15, bz15⟩
                · refine Rw.wp_alloc 35 rfl (Hd.encL ⟨⟨#[]⟩, 0, 0⟩) Hd.zLeg ?_
                  intro wz16 ka16 ba16 za16
                  have bz16 : Below w6.heap.size w6 wz16 := Below.trans (bz11) (Below.mono ba16 (Below.size bz11))
                  clear za16
                  have hne16 : wz1.heap.size ≠ wz11.heap.size := Nat.ne_of_lt ka11.lt
                  have kz16_6 := ka11.below' ba16
                  refine hK.out _ _ ?_ (fun hHeld2 => ?_)
                  · exact HS14.out _ bz16
                  clear hK K
                  try simp only [Act.put]
                  try simp only [List.setIfInBounds_toArray]
                  try simp only [List.set_cons_succ]
                  try simp only [List.set_cons_zero]
                  refine wpAnyH_ready (rs := [5]) (by kernel_rfl) (by simp) ?_
                  refine AllReadyH.cons (o := ⟨(some 74), _, _, _, _, _⟩) rfl (fun K hK => ?_) (AllReadyH.nil)
                  go_simp
                  go_at_call 9
                  refine (HLgb.out _ (HB6.out.trans (Below.mono (bz16) HB6.out.size))).mono ?_
                  rintro e wz17 ⟨rfl, hb17⟩
                  have bz17 : Below w6.heap.size w6 wz17 := Below.trans (bz16) (Below.mono hb17 (Below.size bz16))
                  have kz17_6 := kz16_6.below' hb17
                  have kz17_7 := ka16.below' hb17
                  go_wp2_with fail
                  refine hK.out _ _ ?_ (fun hHeld2 => ?_)
                  · exact HS14.out _ bz17
                  clear hK K
                  try simp only [Act.put]
                  try simp only [List.setIfInBounds_toArray]
                  try simp only [List.set_cons_succ]
                  try simp only [List.set_cons_zero]
                  refine wpAnyH_ready (rs := [8]) (by kernel_rfl) (by simp) ?_
                  refine AllReadyH.cons (o := ⟨none, _, _, _, _, _⟩) rfl (fun K hK => ?_) (AllReadyH.nil)
                  refine Rw.wp_store_whole 35 (.tmp 13) (.tmp 71) rfl _ rfl (Hd.encL ⟨xc, xn, xd⟩) rfl _ _ kz17_6 Hd.iLeg rfl (Hd.encL_one _) ?_
                  intro wz18 ka18 fa18
                  have bz18 : Below w6.heap.size w6 wz18 := Below.trans (bz17) (fa18.below (Below.size bz17) (fun k hk => Nat.le_trans (Below.size bz1) (Nat.le_of_eq hk.symm)))
                  have kz18_7 := kz17_7.kept (fa18.block _ kz17_7.lt (show ¬ (wz11.heap.size = wz1.heap.size) by omega))
                  refine hK.out _ _ ?_ (fun hHeld2 => ?_)
                  · exact HS14.out _ bz18
                  clear hK K
                  try simp only [Act.put]
                  try simp only [List.setIfInBounds_toArray]
                  try simp only [List.set_cons_succ]
                  try simp only [List.set_cons_zero]
                  refine wpAnyH_ready (rs := [9]) (by kernel_rfl) (by simp) ?_
                  refine AllReadyH.cons (o := ⟨none, _, _, _, _, _⟩) rfl (fun K hK => ?_) (AllReadyH.nil)
                  refine Rw.wp_store_whole 35 (.tmp 14) (.tmp 74) rfl _ rfl (Hd.encL ⟨yc, yn, yd⟩) rfl _ _ kz18_7 Hd.iLeg rfl (Hd.encL_one _) ?_
                  intro wz19 ka19 fa19
                  have bz19 : Below w6.heap.size w6 wz19 := Below.trans (bz18) (fa19.below (Below.size bz18) (fun k hk => Nat.le_trans (Below.size bz11) (Nat.le_of_eq hk.symm)))
                  have kz19_6 := ka18.kept (fa19.block _ ka18.lt (show ¬ (wz1.heap.size = wz11.heap.size) by omega))
                  refine hK.out _ _ ?_ (fun hHeld2 => ?_)
                  · exact HS14.out _ bz19
                  clear hK K
                  try simp only [Act.put]
                  try simp only [List.setIfInBounds_toArray]
                  try simp only [List.set_cons_succ]
                  try simp only [List.set_cons_zero]
                  refine wpAnyH_done (by kernel_rfl) ?_ _
                  refine NoPanic.normal ?_
                  go_wp2
                  go_meet
                  exact ⟨_, _, rfl, rfl, kz19_6, ka19, bz19⟩
              · refine Rw.wp_alloc 35 rfl (Hd.encL ⟨⟨#[]⟩, 0, 0⟩) Hd.zLeg ?_
                intro wz20 ka20 ba20 za20
                have bz20 : Below w6.heap.size w6 wz20 := Below.trans (bz1) (Below.mono ba20 (Below.size bz1))
                clear za20
                refine hK.out _ _ ?_ (fun hHeld2 => ?_)
                · exact HS14.out _ bz20
                clear hK K
                try simp only [Act.put]
                try simp only [List.setIfInBounds_toArray]
                try simp only [List.set_cons_succ]
                try simp only [List.set_cons_zero]
                refine wpAnyH_ready (rs := [5, 6]) (by kernel_rfl) (by simp) ?_
                refine AllReadyH.cons (o := ⟨(some 74), _, _, _, _, _⟩) rfl (fun K hK => ?_) (AllReadyH.cons (o := ⟨(some 13), _, _, _, _, _⟩) rfl (fun K hK => ?_) (AllReadyH.nil))
                · go_simp
                  go_at_call 9
                  refine (HLgb.out _ (HB6.out.trans (Below.mono (bz20) HB6.out.size))).mono ?_
                  rintro e wz21 ⟨rfl, hb21⟩
                  have bz21 : Below w6.heap.size w6 wz21 := Below.trans (bz20) (Below.mono hb21 (Below.size bz20))
                  have kz21_7 := ka20.below' hb21
                  go_wp2_with fail
                  refine hK.out _ _ ?_ (fun hHeld2 => ?_)
                  · exact HS14.out _ bz21
                  clear hK K
                  try simp only [Act.put]
                  try simp only [List.setIfInBounds_toArray]
                  try simp only [List.set_cons_succ]
                  try simp only [List.set_cons_zero]
                  refine wpAnyH_ready (rs := [6]) (by kernel_rfl) (by simp) ?_
                  refine AllReadyH.cons (o := ⟨(some 13), _, _, _, _, _⟩) rfl (fun K hK => ?_) (AllReadyH.nil)
                  refine Rw.wp_alloc 35 rfl (Hd.encL ⟨⟨#[]⟩, 0, 0⟩) Hd.zLeg ?_
                  intro wz22 ka22 ba22 za22
                  have bz22 : Below w6.heap.size w6 wz22 := Below.trans (bz21) (Below.mono ba22 (Below.size bz21))
                  clear za22
                  have hne22 : wz1.heap.size ≠ wz21.heap.size := Nat.ne_of_lt kz21_7.lt
                  have kz22_7 := kz21_7.below' ba22
                  refine hK.out _ _ ?_ (fun hHeld2 => ?_)
                  · exact HS14.out _ bz22
                  clear hK K
                  try simp only [Act.put]
                  try simp only [List.setIfInBounds_toArray]
                  try simp only [List.set_cons_succ]
                  try simp only [List.set_cons_zero]
                  refine wpAnyH_ready (rs := [8]) (by kernel_rfl) (by simp) ?_
                  refine AllReadyH.cons (o := ⟨none, _, _, _, _, _⟩) rfl (fun K hK => ?_) (AllReadyH.nil)
                  refine Rw.wp_store_whole 35 (.tmp 13) (.tmp 71) rfl _ rfl (Hd.encL ⟨xc, xn, xd⟩) rfl _ _ ka22 Hd.iLeg rfl (Hd.encL_one _) ?_
                  intro wz23 ka23 fa23
                  have bz23 : Below w6.heap.size w6 wz23 := Below.trans (bz22) (fa23.below (Below.size bz22) (fun k hk => Nat.le_trans (Below.size bz21) (Nat.le_of_eq hk.symm)))
                  have kz23_7 := kz22_7.kept (fa23.block _ kz22_7.lt (show ¬ (wz1.heap.size = wz21.heap.size) by omega))
                  refine hK.out _ _ ?_ (fun hHeld2 => ?_)
                  · exact HS14.out _ bz23
                  clear hK K
                  try simp only [Act.put]
                  try simp only [List.setIfInBounds_toArray]
                  try simp only [List.set_cons_succ]
                  try simp only [List.set_cons_zero]
                  refine wpAnyH_ready (rs := [9]) (by kernel_rfl) (by simp) ?_
                  refine AllReadyH.cons (o := ⟨none, _, _, _, _, _⟩) rfl (fun K hK => ?_) (AllReadyH.nil)
                  refine Rw.wp_store_whole 35 (.tmp 14) (.tmp 74) rfl _ rfl (Hd.encL ⟨yc, yn, yd⟩) rfl _ _ kz23_7 Hd.iLeg rfl (Hd.encL_one _) ?_
                  intro wz24 ka24 fa24
                  have bz24 : Below w6.heap.size w6 wz24 := Below.trans (bz23) (fa24.below (Below.size bz23) (fun k hk => Nat.le_trans (Below.size bz1) (Nat.le_of_eq hk.symm)))
                  have kz24_6 := ka23.kept (fa24.block _ ka23.lt (show ¬ (wz21.heap.size = wz1.heap.size) by omega))
                  refine hK.out _ _ ?_ (fun hHeld2 => ?_)
                  · exact HS14.out _ bz24
                  clear hK K
                  try simp only [Act.put]
                  try simp only [List.setIfInBounds_toArray]
                  try simp only [List.set_cons_succ]
                  try simp only [List.set_cons_zero]
                  refine wpAnyH_done (by kernel_rfl) ?_ _
                  refine NoPanic.normal ?_
                  go_wp2
                  go_meet
                  exact ⟨_, _, rfl, rfl, kz24_6, ka24, bz24⟩
                · refine Rw.wp_alloc 35 rfl (Hd.encL ⟨⟨#[]⟩, 0, 0⟩) Hd.zLeg ?_
                  intro wz25 ka25 ba25 za25
                  have bz25 : Below w6.heap.size w6 wz25 := Below.trans (bz20) (Below.mono ba25 (Below.size bz20))
                  clear za25
                  have hne25 : wz1.heap.size ≠ wz20.heap.size := Nat.ne_of_lt ka20.lt
                  have kz25_7 := ka20.below' ba25
                  refine hK.out _ _ ?_ (fun hHeld2 => ?_)
                  · exact HS14.out _ bz25
                  clear hK K
                  try simp only [Act.put]
                  try simp only [List.setIfInBounds_toArray]
                  try simp only [List.set_cons_succ]
                  try simp only [List.set_cons_zero]
                  refine wpAnyH_ready (rs := [5]) (by kernel_rfl) (by simp) ?_
                  refine AllReadyH.cons (o := ⟨(some 74), _, _, _, _, _⟩) rfl (fun K hK => ?_) (AllReadyH.nil)
                  go_simp
                  go_at_call 9
                  refine (HLgb.out _ (HB6.out.trans (Below.mono (bz25) HB6.out.size))).mono ?_
                  rintro e wz26 ⟨rfl, hb26⟩
                  have bz26 : Below w6.heap.size w6 wz26 := Below.trans (bz25) (Below.mono hb26 (Below.size bz25))
                  have kz26_6 := ka25.below' hb26
                  have kz26_7 := kz25_7.below' hb26
                  go_wp2_with fail
                  refine hK.out _ _ ?_ (fun hHeld2 => ?_)
                  · exact HS14.out _ bz26
                  clear hK K
                  try simp only [Act.put]
                  try simp only [List.setIfInBounds_toArray]
                  try simp only [List.set_cons_succ]
                  try simp only [List.set_cons_zero]
                  refine wpAnyH_ready (rs := [8]) (by kernel_rfl) (by simp) ?_
                  refine AllReadyH.cons (o := ⟨none, _, _, _, _, _⟩) rfl (fun K hK => ?_) (AllReadyH.nil)
                  refine Rw.wp_store_whole 35 (.tmp 13) (.tmp 71) rfl _ rfl (Hd.encL ⟨xc, xn, xd⟩) rfl _ _ kz26_6 Hd.iLeg rfl (Hd.encL_one _) ?_
                  intro wz27 ka27 fa27
                  have bz27 : Below w6.heap.size w6 wz27 := Below.trans (bz26) (fa27.below (Below.size bz26) (fun k hk => Nat.le_trans (Below.size bz20) (Nat.le_of_eq hk.symm)))
                  have kz27_7 := kz26_7.kept (fa27.block _ kz26_7.lt (show ¬ (wz1.heap.size = wz20.heap.size) by omega))
                  refine hK.out _ _ ?_ (fun hHeld2 => ?_)
                  · exact HS14.out _ bz27
                  clear hK K
                  try simp only [Act.put]
                  try simp only [List.setIfInBounds_toArray]
                  try simp only [List.set_cons_succ]
                  try simp only [List.set_cons_zero]
                  refine wpAnyH_ready (rs := [9]) (by kernel_rfl) (by simp) ?_
                  refine AllReadyH.cons (o := ⟨none, _, _, _, _, _⟩) rfl (fun K hK => ?_) (AllReadyH.nil)
                  refine Rw.wp_store_whole 35 (.tmp 14) (.tmp 74) rfl _ rfl (Hd.encL ⟨yc, yn, yd⟩) rfl _ _ kz27_7 Hd.iLeg rfl (Hd.encL_one _) ?_
                  intro wz28 ka28 fa28
                  have bz28 : Below w6.heap.size w6 wz28 := Below.trans (bz27) (fa28.below (Below.size bz27) (fun k hk => Nat.le_trans (Below.size bz1) (Nat.le_of_eq hk.symm)))
                  have kz28_6 := ka27.kept (fa28.block _ ka27.lt (show ¬ (wz20.heap.size = wz1.heap.size) by omega))
                  refine hK.out _ _ ?_ (fun hHeld2 => ?_)
                  · exact HS14.out _ bz28
                  clear hK K
                  try simp only [Act.put]
                  try simp only [List.setIfInBounds_toArray]
                  try simp only [List.set_cons_succ]
                  try simp only [List.set_cons_zero]
                  refine wpAnyH_done (by kernel_rfl) ?_ _
                  refine NoPanic.normal ?_
                  go_wp2
                  go_meet
                  exact ⟨_, _, rfl, rfl, kz28_6, ka28, bz28⟩
            · refine Rw.wp_alloc 35 rfl (Hd.encL ⟨⟨#[]⟩, 0, 0⟩) Hd.zLeg ?_
              intro wz29 ka29 ba29 za29
              have bz29 : Below w6.heap.size w6 wz29 := Below.trans ((Below.refl w6.heap.size w6).drew) (Below.mono ba29 (Nat.le_refl _))
              clear za29
              refine hK.out _ _ ?_ (fun hHeld2 => ?_)
              · exact HS14.out _ bz29
              clear hK K
              try simp only [Act.put]
              try simp only [List.setIfInBounds_toArray]
              try simp only [List.set_cons_succ]
              try simp only [List.set_cons_zero]
              refine wpAnyH_ready (rs := [2, 7]) (by kernel_rfl) (by simp) ?_
              refine AllReadyH.cons (o := ⟨(some 71), _, _, _, _, _⟩) rfl (fun K hK => ?_) (AllReadyH.cons (o := ⟨(some 14), _, _, _, _, _⟩) rfl (fun K hK => ?_) (AllReadyH.nil))
              · go_simp
                go_at_call 9
                refine (HLga.out _ (HB6.out.trans (Below.mono (bz29) HB6.out.size))).mono ?_
                rintro e wz30 ⟨rfl, hb30⟩
                have bz30 : Below w6.heap.size w6 wz30 := Below.trans (bz29) (Below.mono hb30 (Below.size bz29))
                have kz30_6 := ka29.below' hb30
                go_wp2_with fail
                refine hK.out _ _ ?_ (fun hHeld2 => ?_)
                · exact HS14.out _ bz30
                clear hK K
                try simp only [Act.put]
                try simp only [List.setIfInBounds_toArray]
                try simp only [List.set_cons_succ]
                try simp only [List.set_cons_zero]
                refine wpAnyH_ready (rs := [5, 7]) (by kernel_rfl) (by simp) ?_
                refine AllReadyH.cons (o := ⟨(some 74), _, _, _, _, _⟩) rfl (fun K hK => ?_) (AllReadyH.cons (o := ⟨(some 14), _, _, _, _, _⟩) rfl (fun K hK => ?_) (AllReadyH.nil))
                · go_simp
                  go_at_call 9
                  refine (HLgb.out _ (HB6.out.trans (Below.mono (bz30) HB6.out.size))).mono ?_
                  rintro e wz31 ⟨rfl, hb31⟩
                  have bz31 : Below w6.heap.size w6 wz31 := Below.trans (bz30) (Below.mono hb31 (Below.size bz30))
                  have kz31_6 := kz30_6.below' hb31
                  go_wp2_with fail
                  refine hK.out _ _ ?_ (fun hHeld2 => ?_)
                  · exact HS14.out _ bz31
                  clear hK K
                  try simp only [Act.put]
                  try simp only [List.setIfInBounds_toArray]
                  try simp only [List.set_cons_succ]
                  try simp only [List.set_cons_zero]
                  refine wpAnyH_ready (rs := [7]) (by kernel_rfl) (by simp) ?_
                  refine AllReadyH.cons (o := ⟨(some 14), _, _, _, _, _⟩) rfl (fun K hK => ?_) (AllReadyH.nil)
                  refine Rw.wp_alloc 35 rfl (Hd.encL ⟨⟨#[]⟩, 0, 0⟩) Hd.zLeg ?_
                  intro wz32 ka32 ba32 za32
                  have bz32 : Below w6.heap.size w6 wz32 := Below.trans (bz31) (Below.mono ba32 (Below.size bz31))
                  clear za32
                  have hne32 : w6.drew.heap.size ≠ wz31.heap.size := Nat.ne_of_lt kz31_6.lt
                  have kz32_6 := kz31_6.below' ba32
                  refine hK.out _ _ ?_ (fun hHeld2 => ?_)
                  · exact HS14.out _ bz32
                  clear hK K
                  try simp only [Act.put]
                  try simp only [List.setIfInBounds_toArray]
                  try simp only [List.set_cons_succ]
                  try simp only [List.set_cons_zero]
                  refine wpAnyH_ready (rs := [8]) (by kernel_rfl) (by simp) ?_
                  refine AllReadyH.cons (o := ⟨none, _, _, _, _, _⟩) rfl (fun K hK => ?_) (AllReadyH.nil)
                  refine Rw.wp_store_whole 35 (.tmp 13) (.tmp 71) rfl _ rfl (Hd.encL ⟨xc, xn, xd⟩) rfl _ _ kz32_6 Hd.iLeg rfl (Hd.encL_one _) ?_
                  intro wz33 ka33 fa33
                  have bz33 : Below w6.heap.size w6 wz33 := Below.trans (bz32) (fa33.below (Below.size bz32) (fun k hk => Nat.le_trans (Nat.le_refl _) (Nat.le_of_eq hk.symm)))
                  have kz33_7 := ka32.kept (fa33.block _ ka32.lt (show ¬ (wz31.heap.size = w6.drew.heap.size) by omega))
                  refine hK.out _ _ ?_ (fun hHeld2 => ?_)
                  · exact HS14.out _ bz33
                  clear hK K
                  try simp only [Act.put]
                  try simp only [List.setIfInBounds_toArray]
                  try simp only [List.set_cons_succ]
                  try simp only [List.set_cons_zero]
                  refine wpAnyH_ready (rs := [9]) (by kernel_rfl) (by simp) ?_
                  refine AllReadyH.cons (o := ⟨none, _, _, _, _, _⟩) rfl (fun K hK => ?_) (AllReadyH.nil)
                  refine Rw.wp_store_whole 35 (.tmp 14) (.tmp 74) rfl _ rfl (Hd.encL ⟨yc, yn, yd⟩) rfl _ _ kz33_7 Hd.iLeg rfl (Hd.encL_one _) ?_
                  intro wz34 ka34 fa34
                  have bz34 : Below w6.heap.size w6 wz34 := Below.trans (bz33) (fa34.below (Below.size bz33) (fun k hk => Nat.le_trans (Below.size bz31) (Nat.le_of_eq hk.symm)))
                  have kz34_6 := ka33.kept (fa34.block _ ka33.lt (show ¬ (w6.drew.heap.size = wz31.heap.size) by omega))
                  refine hK.out _ _ ?_ (fun hHeld2 => ?_)
                  · exact HS14.out _ bz34
                  clear hK K
                  try simp only [Act.put]
                  try simp only [List.setIfInBounds_toArray]
                  try simp only [List.set_cons_succ]
                  try simp only [List.set_cons_zero]
                  refine wpAnyH_done (by kernel_rfl) ?_ _
                  refine NoPanic.normal ?_
                  go_wp2
                  go_meet
                  exact ⟨_, _, rfl, rfl, kz34_6, ka34, bz34⟩
                · refine Rw.wp_alloc 35 rfl (Hd.encL ⟨⟨#[]⟩, 0, 0⟩) Hd.zLeg ?_
                  intro wz35 ka35 ba35 za35
                  have bz35 : Below w6.heap.size w6 wz35 := Below.trans (bz30) (Below.mono ba35 (Below.size bz30))
                  clear za35
                  have hne35 : w6.drew.heap.size ≠ wz30.heap.size := Nat.ne_of_lt kz30_6.lt
                  have kz35_6 := kz30_6.below' ba35
                  refine hK.out _ _ ?_ (fun hHeld2 => ?_)
                  · exact HS14.out _ bz35
                  clear hK K
                  try simp only [Act.put]
                  try simp only [List.setIfInBounds_toArray]
                  try simp only [List.set_cons_succ]
                  try simp only [List.set_cons_zero]
                  refine wpAnyH_ready (rs := [5]) (by kernel_rfl) (by simp) ?_
                  refine AllReadyH.cons (o := ⟨(some 74), _, _, _, _, _⟩) rfl (fun K hK => ?_) (AllReadyH.nil)
                  go_simp
                  go_at_call 9
                  refine (HLgb.out _ (HB6.out.trans (Below.mono (bz35) HB6.out.size))).mono ?_
                  rintro e wz36 ⟨rfl, hb36⟩
                  have bz36 : Below w6.heap.size w6 wz36 := Below.trans (bz35) (Below.mono hb36 (Below.size bz35))
                  have kz36_6 := kz35_6.below' hb36
                  have kz36_7 := ka35.below' hb36
                  go_wp2_with fail
                  refine hK.out _ _ ?_ (fun hHeld2 => ?_)
                  · exact HS14.out _ bz36
                  clear hK K
                  try simp only [Act.put]
                  try simp only [List.setIfInBounds_toArray]
                  try simp only [List.set_cons_succ]
                  try simp only [List.set_cons_zero]
                  refine wpAnyH_ready (rs := [8]) (by kernel_rfl) (by simp) ?_
                  refine AllReadyH.cons (o := ⟨none, _, _, _, _, _⟩) rfl (fun K hK => ?_) (AllReadyH.nil)
                  refine Rw.wp_store_whole 35 (.tmp 13) (.tmp 71) rfl _ rfl (Hd.encL ⟨xc, xn, xd⟩) rfl _ _ kz36_6 Hd.iLeg rfl (Hd.encL_one _) ?_
                  intro wz37 ka37 fa37
                  have bz37 : Below w6.heap.size w6 wz37 := Below.trans (bz36) (fa37.below (Below.size bz36) (fun k hk => Nat.le_trans (Nat.le_refl _) (Nat.le_of_eq hk.symm)))
                  have kz37_7 := kz36_7.kept (fa37.block _ kz36_7.lt (show ¬ (wz30.heap.size = w6.drew.heap.size) by omega))
                  refine hK.out _ _ ?_ (fun hHeld2 => ?_)
                  · exact HS14.out _ bz37
                  clear hK K
                  try simp only [Act.put]
                  try simp only [List.setIfInBounds_toArray]
                  try simp only [List.set_cons_succ]
                  try simp only [List.set_cons_zero]
                  refine wpAnyH_ready (rs := [9]) (by kernel_rfl) (by simp) ?_
                  refine AllReadyH.cons (o := ⟨none, _, _, _, _, _⟩) rfl (fun K hK => ?_) (AllReadyH.nil)
                  refine Rw.wp_store_whole 35 (.tmp 14) (.tmp 74) rfl _ rfl (Hd.encL ⟨yc, yn, yd⟩) rfl _ _ kz37_7 Hd.iLeg rfl (Hd.encL_one _) ?_
                  intro wz38 ka38 fa38
                  have bz38 : Below w6.heap.size w6 wz38 := Below.trans (bz37) (fa38.below (Below.size bz37) (fun k hk => Nat.le_trans (Below.size bz30) (Nat.le_of_eq hk.symm)))
                  have kz38_6 := ka37.kept (fa38.block _ ka37.lt (show ¬ (w6.drew.heap.size = wz30.heap.size) by omega))
                  refine hK.out _ _ ?_ (fun hHeld2 => ?_)
                  · exact HS14.out _ bz38
                  clear hK K
                  try simp only [Act.put]
                  try simp only [List.setIfInBounds_toArray]
                  try simp only [List.set_cons_succ]
                  try simp only [List.set_cons_zero]
                  refine wpAnyH_done (by kernel_rfl) ?_ _
                  refine NoPanic.normal ?_
                  go_wp2
                  go_meet
                  exact ⟨_, _, rfl, rfl, kz38_6, ka38, bz38⟩
              · refine Rw.wp_alloc 35 rfl (Hd.encL ⟨⟨#[]⟩, 0, 0⟩) Hd.zLeg ?_
                intro wz39 ka39 ba39 za39
                have bz39 : Below w6.heap.size w6 wz39 := Below.trans (bz29) (Below.mono ba39 (Below.size bz29))
                clear za39
                have hne39 : w6.drew.heap.size ≠ wz29.heap.size := Nat.ne_of_lt ka29.lt
                have kz39_6 := ka29.below' ba39
                refine hK.out _ _ ?_ (fun hHeld2 => ?_)
                · exact HS14.out _ bz39
                clear hK K
                try simp only [Act.put]
                try simp only [List.setIfInBounds_toArray]
                try simp only [List.set_cons_succ]
                try simp only [List.set_cons_zero]
                refine wpAnyH_ready (rs := [2]) (by kernel_rfl) (by simp) ?_
                refine AllReadyH.cons (o := ⟨(some 71), _, _, _, _, _⟩) rfl (fun K hK => ?_) (AllReadyH.nil)
                go_simp
                go_at_call 9
                refine (HLga.out _ (HB6.out.trans (Below.mono (bz39) HB6.out.size))).mono ?_
                rintro e wz40 ⟨rfl, hb40⟩
                have bz40 : Below w6.heap.size w6 wz40 := Below.trans (bz39) (Below.mono hb40 (Below.size bz39))
                have kz40_6 := kz39_6.below' hb40
                have kz40_7 := ka39.below' hb40
                go_wp2_with fail
                refine hK.out _ _ ?_ (fun hHeld2 => ?_)
                · exact HS14.out _ bz40
                clear hK K
                try simp only [Act.put]
                try simp only [List.setIfInBounds_toArray]
                try simp only [List.set_cons_succ]
                try simp only [List.set_cons_zero]
                refine wpAnyH_ready (rs := [5]) (by kernel_rfl) (by simp) ?_
                refine AllReadyH.cons (o := ⟨(some 74), _, _, _, _, _⟩) rfl (fun K hK => ?_) (AllReadyH.nil)
                go_simp
                go_at_call 9
                refine (HLgb.out _ (HB6.out.trans (Below.mono (bz40) HB6.out.size))).mono ?_
                rintro e wz41 ⟨rfl, hb41⟩
                have bz41 : Below w6.heap.size w6 wz41 := Below.trans (bz40) (Below.mono hb41 (Below.size bz40))
                have kz41_6 := kz40_6.below' hb41
                have kz41_7 := kz40_7.below' hb41
                go_wp2_with fail
                refine hK.out _ _ ?_ (fun hHeld2 => ?_)
                · exact HS14.out _ bz41
                clear hK K
                try simp only [Act.put]
                try simp only [List.setIfInBounds_toArray]
                try simp only [List.set_cons_succ]
                try simp only [List.set_cons_zero]
                refine wpAnyH_ready (rs := [8]) (by kernel_rfl) (by simp) ?_
                refine AllReadyH.cons (o := ⟨none, _, _, _, _, _⟩) rfl (fun K hK => ?_) (AllReadyH.nil)
                refine Rw.wp_store_whole 35 (.tmp 13) (.tmp 71) rfl _ rfl (Hd.encL ⟨xc, xn, xd⟩) rfl _ _ kz41_6 Hd.iLeg rfl (Hd.encL_one _) ?_
                intro wz42 ka42 fa42
                have bz42 : Below w6.heap.size w6 wz42 := Below.trans (bz41) (fa42.below (Below.size bz41) (fun k hk => Nat.le_trans (Nat.le_refl _) (Nat.le_of_eq hk.symm)))
                have kz42_7 := kz41_7.kept (fa42.block _ kz41_7.lt (show ¬ (wz29.heap.size = w6.drew.heap.size) by omega))
                refine hK.out _ _ ?_ (fun hHeld2 => ?_)
                · exact HS14.out _ bz42
                clear hK K
                try simp only [Act.put]
                try simp only [List.setIfInBounds_toArray]
                try simp only [List.set_cons_succ]
                try simp only [List.set_cons_zero]
                refine wpAnyH_ready (rs := [9]) (by kernel_rfl) (by simp) ?_
                refine AllReadyH.cons (o := ⟨none, _, _, _, _, _⟩) rfl (fun K hK => ?_) (AllReadyH.nil)
                refine Rw.wp_store_whole 35 (.tmp 14) (.tmp 74) rfl _ rfl (Hd.encL ⟨yc, yn, yd⟩) rfl _ _ kz42_7 Hd.iLeg rfl (Hd.encL_one _) ?_
                intro wz43 ka43 fa43
                have bz43 : Below w6.heap.size w6 wz43 := Below.trans (bz42) (fa43.below (Below.size bz42) (fun k hk => Nat.le_trans (Below.size bz29) (Nat.le_of_eq hk.symm)))
                have kz43_6 := ka42.kept (fa43.block _ ka42.lt (show ¬ (w6.drew.heap.size = wz29.heap.size) by omega))
                refine hK.out _ _ ?_ (fun hHeld2 => ?_)
                · exact HS14.out _ bz43
                clear hK K
                try simp only [Act.put]
                try simp only [List.setIfInBounds_toArray]
                try simp only [List.set_cons_succ]
                try simp only [List.set_cons_zero]
                refine wpAnyH_done (by kernel_rfl) ?_ _
                refine NoPanic.normal ?_
                go_wp2
                go_meet
                exact ⟨_, _, rfl, rfl, kz43_6, ka43, bz43⟩
            · refine Rw.wp_alloc 35 rfl (Hd.encL ⟨⟨#[]⟩, 0, 0⟩) Hd.zLeg ?_
              intro wz44 ka44 ba44 za44
              have bz44 : Below w6.heap.size w6 wz44 := Below.trans ((Below.refl w6.heap.size w6).drew) (Below.mono ba44 (Nat.le_refl _))
              clear za44
              refine hK.out _ _ ?_ (fun hHeld2 => ?_)
              · exact HS14.out _ bz44
              clear hK K
              try simp only [Act.put]
              try simp only [List.setIfInBounds_toArray]
              try simp only [List.set_cons_succ]
              try simp only [List.set_cons_zero]
              refine wpAnyH_ready (rs := [2, 6]) (by kernel_rfl) (by simp) ?_
              refine AllReadyH.cons (o := ⟨(some 71), _, _, _, _, _⟩) rfl (fun K hK => ?_) (AllReadyH.cons (o := ⟨(some 13), _, _, _, _, _⟩) rfl (fun K hK => ?_) (AllReadyH.nil))
              · go_simp
                go_at_call 9
                refine (HLga.out _ (HB6.out.trans (Below.mono (bz44) HB6.out.size))).mono ?_
                rintro e wz45 ⟨rfl, hb45⟩
                have bz45 : Below w6.heap.size w6 wz45 := Below.trans (bz44) (Below.mono hb45 (Below.size bz44))
                have kz45_7 := ka44.below' hb45
                go_wp2_with fail
                refine hK.out _ _ ?_ (fun hHeld2 => ?_)
                · exact HS14.out _ bz45
                clear hK K
                try simp only [Act.put]
                try simp only [List.setIfInBounds_toArray]
                try simp only [List.set_cons_succ]
                try simp only [List.set_cons_zero]
                refine wpAnyH_ready (rs := [5, 6]) (by kernel_rfl) (by simp) ?_
                refine AllReadyH.cons (o := ⟨(some 74), _, _, _, _, _⟩) rfl (fun K hK => ?_) (AllReadyH.cons (o := ⟨(some 13), _, _, _, _, _⟩) rfl (fun K hK => ?_) (AllReadyH.nil))
                · go_simp
                  go_at_call 9
                  refine (HLgb.out _ (HB6.out.trans (Below.mono (bz45) HB6.out.size))).mono ?_
                  rintro e wz46 ⟨rfl, hb46⟩
                  have bz46 : Below w6.heap.size w6 wz46 := Below.trans (bz45) (Below.mono hb46 (Below.size bz45))
                  have kz46_7 := kz45_7.below' hb46
                  go_wp2_with fail
                  refine hK.out _ _ ?_ (fun hHeld2 => ?_)
                  · exact HS14.out _ bz46
                  clear hK K
                  try simp only [Act.put]
                  try simp only [List.setIfInBounds_toArray]
                  try simp only [List.set_cons_succ]
                  try simp only [List.set_cons_zero]
                  refine wpAnyH_ready (rs := [6]) (by kernel_rfl) (by simp) ?_
                  refine AllReadyH.cons (o := ⟨(some 13), _, _, _, _, _⟩) rfl (fun K hK => ?_) (AllReadyH.nil)
                  refine Rw.wp_alloc 35 rfl (Hd.encL ⟨⟨#[]⟩, 0, 0⟩) Hd.zLeg ?_
                  intro wz47 ka47 ba47 za47
                  have bz47 : Below w6.heap.size w6 wz47 := Below.trans (bz46) (Below.mono ba47 (Below.size bz46))
                  clear za47
                  have hne47 : w6.drew.heap.size ≠ wz46.heap.size := Nat.ne_of_lt kz46_7.lt
                  have kz47_7 := kz46_7.below' ba47
                  refine hK.out _ _ ?_ (fun hHeld2 => ?_)
                  · exact HS14.out _ bz47
                  clear hK K
                  try simp only [Act.put]
                  try simp only [List.setIfInBounds_toArray]
                  try simp only [List.set_cons_succ]
                  try simp only [List.set_cons_zero]
                  refine wpAnyH_ready (rs := [8]) (by kernel_rfl) (by simp) ?_
                  refine AllReadyH.cons (o := ⟨none, _, _, _, _, _⟩) rfl (fun K hK => ?_) (AllReadyH.nil)
                  refine Rw.wp_store_whole 35 (.tmp 13) (.tmp 71) rfl _ rfl (Hd.encL ⟨xc, xn, xd⟩) rfl _ _ ka47 Hd.iLeg rfl (Hd.encL_one _) ?_
                  intro wz48 ka48 fa48
                  have bz48 : Below w6.heap.size w6 wz48 := Below.trans (bz47) (fa48.below (Below.size bz47) (fun k hk => Nat.le_trans (Below.size bz46) (Nat.le_of_eq hk.symm)))
                  have kz48_7 := kz47_7.kept (fa48.block _ kz47_7.lt (show ¬ (w6.drew.heap.size = wz46.heap.size) by omega))
                  refine hK.out _ _ ?_ (fun hHeld2 => ?_)
                  · exact HS14.out _ bz48
                  clear hK K
                  try simp only [Act.put]
                  try simp only [List.setIfInBounds_toArray]
                  try simp only [List.set_cons_succ]
                  try simp only [List.set_cons_zero]
                  refine wpAnyH_ready (rs := [9]) (by kernel_rfl) (by simp) ?_
                  refine AllReadyH.cons (o := ⟨none, _, _, _, _, _⟩) rfl (fun K hK => ?_) (AllReadyH.nil)
                  refine Rw.wp_store_whole 35 (.tmp 14) (.tmp 74) rfl _ rfl (Hd.encL ⟨yc, yn, yd⟩) rfl _ _ kz48_7 Hd.iLeg rfl (Hd.encL_one _) ?_
                  intro wz49 ka49 fa49
                  have bz49 : Below w6.heap.size w6 wz49 := Below.trans (bz48) (fa49.below (Below.size bz48) (fun k hk => Nat.le_trans (Nat.le_refl _) (Nat.le_of_eq hk.symm)))
                  have kz49_6 := ka48.kept (fa49.block _ ka48.lt (show ¬ (wz46.heap.size = w6.drew.heap.size) by omega))
                  refine hK.out _ _ ?_ (fun hHeld2 => ?_)
                  · exact HS14.out _ bz49
                  clear hK K
                  try simp only [Act.put]
                  try simp only [List.setIfInBounds_toArray]
                  try simp only [List.set_cons_succ]
                  try simp only [List.set_cons_zero]
                  refine wpAnyH_done (by kernel_rfl) ?_ _
                  refine NoPanic.normal ?_
                  go_wp2
                  go_meet
                  exact ⟨_, _, rfl, rfl, kz49_6, ka49, bz49⟩
                · refine Rw.wp_alloc 35 rfl (Hd.encL ⟨⟨#[]⟩, 0, 0⟩) Hd.zLeg ?_
                  intro wz50 ka50 ba50 za50
                  have bz50 : Below w6.heap.size w6 wz50 := Below.trans (bz45) (Below.mono ba50 (Below.size bz45))
                  clear za50
                  have hne50 : w6.drew.heap.size ≠ wz45.heap.size := Nat.ne_of_lt kz45_7.lt
                  have kz50_7 := kz45_7.below' ba50
                  refine hK.out _ _ ?_ (fun hHeld2 => ?_)
                  · exact HS14.out _ bz50
                  clear hK K
                  try simp only [Act.put]
                  try simp only [List.setIfInBounds_toArray]
                  try simp only [List.set_cons_succ]
                  try simp only [List.set_cons_zero]
                  refine wpAnyH_ready (rs := [5]) (by kernel_rfl) (by simp) ?_
                  refine AllReadyH.cons (o := ⟨(some 74), _, _, _, _, _⟩) rfl (fun K hK => ?_) (AllReadyH.nil)
                  go_simp
                  go_at_call 9
                  refine (HLgb.out _ (HB6.out.trans (Below.mono (bz50) HB6.out.size))).mono ?_
                  rintro e wz51 ⟨rfl, hb51⟩
                  have bz51 : Below w6.heap.size w6 wz51 := Below.trans (bz50) (Below.mono hb51 (Below.size bz50))
                  have kz51_6 := ka50.below' hb51
                  have kz51_7 := kz50_7.below' hb51
                  go_wp2_with fail
                  refine hK.out _ _ ?_ (fun hHeld2 => ?_)
                  · exact HS14.out _ bz51
                  clear hK K
                  try simp only [Act.put]
                  try simp only [List.setIfInBounds_toArray]
                  try simp only [List.set_cons_succ]
                  try simp only [List.set_cons_zero]
                  refine wpAnyH_ready (rs := [8]) (by kernel_rfl) (by simp) ?_
                  refine AllReadyH.cons (o := ⟨none, _, _, _, _, _⟩) rfl (fun K hK => ?_) (AllReadyH.nil)
                  refine Rw.wp_store_whole 35 (.tmp 13) (.tmp 71) rfl _ rfl (Hd.encL ⟨xc, xn, xd⟩) rfl _ _ kz51_6 Hd.iLeg rfl (Hd.encL_one _) ?_
                  intro wz52 ka52 fa52
                  have bz52 : Below w6.heap.size w6 wz52 := Below.trans (bz51) (fa52.below (Below.size bz51) (fun k hk => Nat.le_trans (Below.size bz45) (Nat.le_of_eq hk.symm)))
                  have kz52_7 := kz51_7.kept (fa52.block _ kz51_7.lt (show ¬ (w6.drew.heap.size = wz45.heap.size) by omega))
                  refine hK.out _ _ ?_ (fun hHeld2 => ?_)
                  · exact HS14.out _ bz52
                  clear hK K
                  try simp only [Act.put]
                  try simp only [List.setIfInBounds_toArray]
                  try simp only [List.set_cons_succ]
                  try simp only [List.set_cons_zero]
                  refine wpAnyH_ready (rs := [9]) (by kernel_rfl) (by simp) ?_
                  refine AllReadyH.cons (o := ⟨none, _, _, _, _, _⟩) rfl (fun K hK => ?_) (AllReadyH.nil)
                  refine Rw.wp_store_whole 35 (.tmp 14) (.tmp 74) rfl _ rfl (Hd.encL ⟨yc, yn, yd⟩) rfl _ _ kz52_7 Hd.iLeg rfl (Hd.encL_one _) ?_
                  intro wz53 ka53 fa53
                  have bz53 : Below w6.heap.size w6 wz53 := Below.trans (bz52) (fa53.below (Below.size bz52) (fun k hk => Nat.le_trans (Nat.le_refl _) (Nat.le_of_eq hk.symm)))
                  have kz53_6 := ka52.kept (fa53.block _ ka52.lt (show ¬ (wz45.heap.size = w6.drew.heap.size) by omega))
                  refine hK.out _ _ ?_ (fun hHeld2 => ?_)
                  · exact HS14.out _ bz53
                  clear hK K
                  try simp only [Act.put]
                  try simp only [List.setIfInBounds_toArray]
                  try simp only [List.set_cons_succ]
                  try simp only [List.set_cons_zero]
                  refine wpAnyH_done (by kernel_rfl) ?_ _
                  refine NoPanic.normal ?_
                  go_wp2
                  go_meet
                  exact ⟨_, _, rfl, rfl, kz53_6, ka53, bz53⟩
              · refine Rw.wp_alloc 35 rfl (Hd.encL ⟨⟨#[]⟩, 0, 0⟩) Hd.zLeg ?_
                intro wz54 ka54 ba54 za54
                have bz54 : Below w6.heap.size w6 wz54 := Below.trans (bz44) (Below.mono ba54 (Below.size bz44))
                clear za54
                have hne54 : w6.drew.heap.size ≠ wz44.heap.size := Nat.ne_of_lt ka44.lt
                have kz54_7 := ka44.below' ba54
                refine hK.out _ _ ?_ (fun hHeld2 => ?_)
                · exact HS14.out _ bz54
                clear hK K
                try simp only [Act.put]
                try simp only [List.setIfInBounds_toArray]
                try simp only [List.set_cons_succ]
                try simp only [List.set_cons_zero]
                refine wpAnyH_ready (rs := [2]) (by kernel_rfl) (by simp) ?_
                refine AllReadyH.cons (o := ⟨(some 71), _, _, _, _, _⟩) rfl (fun K hK => ?_) (AllReadyH.nil)
                go_simp
                go_at_call 9
                refine (HLga.out _ (HB6.out.trans (Below.mono (bz54) HB6.out.size))).mono ?_
                rintro e wz55 ⟨rfl, hb55⟩
                have bz55 : Below w6.heap.size w6 wz55 := Below.trans (bz54) (Below.mono hb55 (Below.size bz54))
                have kz55_6 := ka54.below' hb55
                have kz55_7 := kz54_7.below' hb55
                go_wp2_with fail
                refine hK.out _ _ ?_ (fun hHeld2 => ?_)
                · exact HS14.out _ bz55
                clear hK K
                try simp only [Act.put]
                try simp only [List.setIfInBounds_toArray]
                try simp only [List.set_cons_succ]
                try simp only [List.set_cons_zero]
                refine wpAnyH_ready (rs := [5]) (by kernel_rfl) (by simp) ?_
                refine AllReadyH.cons (o := ⟨(some 74), _, _, _, _, _⟩) rfl (fun K hK => ?_) (AllReadyH.nil)
                go_simp
                go_at_call 9
                refine (HLgb.out _ (HB6.out.trans (Below.mono (bz55) HB6.out.size))).mono ?_
                rintro e wz56 ⟨rfl, hb56⟩
                have bz56 : Below w6.heap.size w6 wz56 := Below.trans (bz55) (Below.mono hb56 (Below.size bz55))
                have kz56_6 := kz55_6.below' hb56
                have kz56_7 := kz55_7.below' hb56
                go_wp2_with fail
                refine hK.out _ _ ?_ (fun hHeld2 => ?_)
                · exact HS14.out _ bz56
                clear hK K
                try simp only [Act.put]
                try simp only [List.setIfInBounds_toArray]
                try simp only [List.set_cons_succ]
                try simp only [List.set_cons_zero]
                refine wpAnyH_ready (rs := [8]) (by kernel_rfl) (by simp) ?_
                refine AllReadyH.cons (o := ⟨none, _, _, _, _, _⟩) rfl (fun K hK => ?_) (AllReadyH.nil)
                refine Rw.wp_store_whole 35 (.tmp 13) (.tmp 71) rfl _ rfl (Hd.encL ⟨xc, xn, xd⟩) rfl _ _ kz56_6 Hd.iLeg rfl (Hd.encL_one _) ?_
                intro wz57 ka57 fa57
                have bz57 : Below w6.heap.size w6 wz57 := Below.trans (bz56) (fa57.below (Below.size bz56) (fun k hk => Nat.le_trans (Below.size bz44) (Nat.le_of_eq hk.symm)))
                have kz57_7 := kz56_7.kept (fa57.block _ kz56_7.lt (show ¬ (w6.drew.heap.size = wz44.heap.size) by omega))
                refine hK.out _ _ ?_ (fun hHeld2 => ?_)
                · exact HS14.out _ bz57
                clear hK K
                try simp only [Act.put]
                try simp only [List.setIfInBounds_toArray]
                try simp only [List.set_cons_succ]
                try simp only [List.set_cons_zero]
                refine wpAnyH_ready (rs := [9]) (by kernel_rfl) (by simp) ?_
                refine AllReadyH.cons (o := ⟨none, _, _, _, _, _⟩) rfl (fun K hK => ?_) (AllReadyH.nil)
                refine Rw.wp_store_whole 35 (.tmp 14) (.tmp 74) rfl _ rfl (Hd.encL ⟨yc, yn, yd⟩) rfl _ _ kz57_7 Hd.iLeg rfl (Hd.encL_one _) ?_
                intro wz58 ka58 fa58
                have bz58 : Below w6.heap.size w6 wz58 := Below.trans (bz57) (fa58.below (Below.size bz57) (fun k hk => Nat.le_trans (Nat.le_refl _) (Nat.le_of_eq hk.symm)))
                have kz58_6 := ka57.kept (fa58.block _ ka57.lt (show ¬ (wz44.heap.size = w6.drew.heap.size) by omega))
                refine hK.out _ _ ?_ (fun hHeld2 => ?_)
                · exact HS14.out _ bz58
                clear hK K
                try simp only [Act.put]
                try simp only [List.setIfInBounds_toArray]
                try simp only [List.set_cons_succ]
                try simp only [List.set_cons_zero]
                refine wpAnyH_done (by kernel_rfl) ?_ _
                refine NoPanic.normal ?_
                go_wp2
                go_meet
                exact ⟨_, _, rfl, rfl, kz58_6, ka58, bz58⟩
          case rest =>
            obtain ⟨w7, ew7⟩ : ∃ wd, wd = wc := ⟨_, rfl⟩
            subst ew7
            obtain ⟨gx, gy, rfl, rfl, hkx, hky, hb7⟩ := hcut.out
            have HP7 : Hid (Hd.Ap W w7 Bt p t m p2 m2 gx gy ga gb cap A rs' gs l l ⟨xc, xn, xd⟩ ⟨yc, yn, yd⟩ ⟨ak, af, ac, an, ad, ar, al, aloc, apax⟩ ⟨bk, bf, bc, bn, bd, br, bl, bloc, bpax⟩) := ⟨HA6.out.kept hb7, HC6.out.kept hb7, hmne, hlw2, hkx, hky, HKa6.out.below' hb7, HKb6.out.below' hb7, HB6.out.trans (hb7.mono HB6.out.size)⟩
            have HCL : Hid (∀ w' l2, Hd.Ap W w' Bt p t m p2 m2 gx gy ga gb cap A rs' gs l l2 ⟨xc, xn, xd⟩ ⟨yc, yn, yd⟩ ⟨ak, af, ac, an, ad, ar, al, aloc, apax⟩ ⟨bk, bf, bc, bn, bd, br, bl, bloc, bpax⟩ → w'.cell? ⟨gx, 0, none⟩ = some (.string xc) ∧ w'.cell? ⟨gx, 1, none⟩ = some (.int .i64 xn) ∧ w'.cell? ⟨gx, 2, none⟩ = some (.int .i64 xd) ∧ w'.cell? ⟨gy, 0, none⟩ = some (.string yc) ∧ w'.cell? ⟨gy, 1, none⟩ = some (.int .i64 yn) ∧ w'.cell? ⟨gy, 2, none⟩ = some (.int .i64 yd) ∧ w'.cell? ⟨ga, 5, none⟩ = some (.int .i64 ar) ∧ w'.cell? ⟨ga, 6, none⟩ = some (.int .u8 al) ∧ w'.cell? ⟨ga, 7, none⟩ = some (.string aloc) ∧ w'.cell? ⟨ga, 8, none⟩ = some (.int .i64 apax) ∧ w'.cell? ⟨gb, 5, none⟩ = some (.int .i64 br) ∧ w'.cell? ⟨gb, 6, none⟩ = some (.int .u8 bl)) := fun w' l2 h => ⟨h.kx.cell 0, h.kx.cell 1, h.kx.cell 2, h.ky.cell 0, h.ky.cell 1, h.ky.cell 2, h.ka.cell 5, h.ka.cell 6, h.ka.cell 7, h.ka.cell 8, h.ko.cell 5, h.ko.cell 6⟩
            obtain ⟨cx0, cx1, cx2, cy0, cy1, cy2, ca5, ca6, ca7, ca8, co5, co6⟩ := HCL.out w7 l HP7.out
            clear hcut hkx hky hb7 HS14 HA6 HC6 HKa6 HKb6 HB6
            have hpok := HP7.out.b.pok
            obtain ⟨on, hone⟩ : ∃ y, y = Hd.onL (rs'.map Fl.R.f) gs l ⟨xc, xn, xd⟩ := ⟨_, rfl⟩
            have hon6 : on.length ≤ 600 := by rw [hone]; exact Hd.onL_len hpok
            have hon : on.length ≤ 100000 := by omega
            obtain ⟨⟨wloc, wpax⟩, hwl⟩ : ∃ y, y = Hd.whoH l (⟨yc, yn, yd, br, bl⟩ : Hd.K) := ⟨_, rfl⟩
            obtain ⟨wb, hwb⟩ : ∃ y, y = (Hd.who l (⟨yc, yn, yd, br, bl⟩ : Hd.K)).isSome := ⟨_, rfl⟩
            obtain ⟨cd, hcd⟩ : ∃ y, y = Hd.takeC (rs'.map Fl.R.f) (gs.map Prod.snd) l (⟨xc, xn, xd, ar, al⟩ : Hd.K) (⟨aloc, apax⟩ : Hd.H) := ⟨_, rfl⟩
            have HWB : Hid (∀ w l2, Hd.Ap W w Bt p t m p2 m2 gx gy ga gb cap A rs' gs l l2 ⟨xc, xn, xd⟩ ⟨yc, yn, yd⟩ ⟨ak, af, ac, an, ad, ar, al, aloc, apax⟩ ⟨bk, bf, bc, bn, bd, br, bl, bloc, bpax⟩ → Calls Tryz.prog 15 #[.pointer (some ⟨p, 0, none⟩), .agg #[.string yc, .int .i64 yn, .int .i64 yd], .agg #[.int .i64 br, .int .u8 bl]] w fun e w' => e = .returned (.tuple #[.agg #[.string wloc, .int .i64 wpax], .bool wb]) ∧ Below w.heap.size w w') := fun w l2 h => by
              have h1 := who_any Bt p t m A cap rs' gs l (⟨yc, yn, yd, br, bl⟩ : Hd.K) w h.b HKy.out
              rw [← hwl, ← hwb] at h1
              exact h1
            have HWCg : Hid (∀ l2 vl vb, vl = Hd.whoH l2 (⟨yc, yn, yd, br, bl⟩ : Hd.K) → vb = (Hd.who l2 (⟨yc, yn, yd, br, bl⟩ : Hd.K)).isSome → ∀ w, Hd.Ap W w Bt p t m p2 m2 gx gy ga gb cap A rs' gs l l2 ⟨xc, xn, xd⟩ ⟨yc, yn, yd⟩ ⟨ak, af, ac, an, ad, ar, al, aloc, apax⟩ ⟨bk, bf, bc, bn, bd, br, bl, bloc, bpax⟩ → Calls Tryz.prog 15 #[.pointer (some ⟨p2, 0, none⟩), .agg #[.string yc, .int .i64 yn, .int .i64 yd], .agg #[.int .i64 br, .int .u8 bl]] w fun e w' => e = .returned (.tuple #[.agg #[.string (Hd.H.loc vl), .int .i64 (Hd.H.pax vl)], .bool vb]) ∧ Below w.heap.size w w') := fun l2 vl vb e1 e2 w h => by
              have h1 := who_any Bt p2 t m2 A cap rs' gs l2 (⟨yc, yn, yd, br, bl⟩ : Hd.K) w h.c HKy.out
              rw [← e1, ← e2] at h1
              exact h1
            have HOB : Hid (∀ w l2, Hd.Ap W w Bt p t m p2 m2 gx gy ga gb cap A rs' gs l l2 ⟨xc, xn, xd⟩ ⟨yc, yn, yd⟩ ⟨ak, af, ac, an, ad, ar, al, aloc, apax⟩ ⟨bk, bf, bc, bn, bd, br, bl, bloc, bpax⟩ → Calls Tryz.prog 19 #[.pointer (some ⟨p, 0, none⟩), .agg #[.string xc, .int .i64 xn, .int .i64 xd]] w (Hd.OnIs w on)) := fun w l2 h => by
              have h1 := on_any Bt p t m A cap rs' gs l ⟨xc, xn, xd⟩ w h.b HKx.out.1
              rw [← hone] at h1
              exact h1
            have HOC : Hid (∀ w l2, Hd.Ap W w Bt p t m p2 m2 gx gy ga gb cap A rs' gs l l2 ⟨xc, xn, xd⟩ ⟨yc, yn, yd⟩ ⟨ak, af, ac, an, ad, ar, al, aloc, apax⟩ ⟨bk, bf, bc, bn, bd, br, bl, bloc, bpax⟩ → ∀ {on2}, Hd.onL (rs'.map Fl.R.f) gs l2 ⟨xc, xn, xd⟩ = on2 → Calls Tryz.prog 19 #[.pointer (some ⟨p2, 0, none⟩), .agg #[.string xc, .int .i64 xn, .int .i64 xd]] w (Hd.OnIs w on2)) := fun w l2 h on2 e => by
              have h1 := on_any Bt p2 t m2 A cap rs' gs l2 ⟨xc, xn, xd⟩ w h.c HKx.out.1
              rw [e] at h1
              exact h1
            have HTk : Hid (∀ w, Hd.Ap W w Bt p t m p2 m2 gx gy ga gb cap A rs' gs l l ⟨xc, xn, xd⟩ ⟨yc, yn, yd⟩ ⟨ak, af, ac, an, ad, ar, al, aloc, apax⟩ ⟨bk, bf, bc, bn, bd, br, bl, bloc, bpax⟩ → Calls Tryz.prog 12 #[.pointer (some ⟨p2, 0, none⟩), .agg #[.string xc, .int .i64 xn, .int .i64 xd], .agg #[.int .i64 ar, .int .u8 al], .agg #[.string aloc, .int .i64 apax]] w (Hd.TakeIs w Bt p2 t m2 A cap rs' gs l (⟨xc, xn, xd, ar, al⟩ : Hd.K) (⟨aloc, apax⟩ : Hd.H))) := fun w h => take_any Bt p2 t m2 A cap rs' gs l (⟨xc, xn, xd, ar, al⟩ : Hd.K) (⟨aloc, apax⟩ : Hd.H) w h.c HKx.out
            have HTT : Hid (∀ w w' e, Hd.Ap W w Bt p t m p2 m2 gx gy ga gb cap A rs' gs l l ⟨xc, xn, xd⟩ ⟨yc, yn, yd⟩ ⟨ak, af, ac, an, ad, ar, al, aloc, apax⟩ ⟨bk, bf, bc, bn, bd, br, bl, bloc, bpax⟩ → Hd.TakeIs w Bt p2 t m2 A cap rs' gs l (⟨xc, xn, xd, ar, al⟩ : Hd.K) (⟨aloc, apax⟩ : Hd.H) e w' → e = .returned (.int .i64 cd) ∧ ∃ l2, Hd.Ap W w' Bt p t m p2 m2 gx gy ga gb cap A rs' gs l l2 ⟨xc, xn, xd⟩ ⟨yc, yn, yd⟩ ⟨ak, af, ac, an, ad, ar, al, aloc, apax⟩ ⟨bk, bf, bc, bn, bd, br, bl, bloc, bpax⟩ ∧ Rw.Fr (· = m2) w w' ∧ ∀ k', Hd.who l2 k' = if k' = (⟨xc, xn, xd, ar, al⟩ : Hd.K) ∧ cd = 0 then some (⟨aloc, apax⟩ : Hd.H) else Hd.who l k') := fun w w' e h hT => by
              rw [hcd]
              exact h.take hT
            have HNEg : Hid (∀ l2 (vl : Hd.H) (vb : Bool), vl = Hd.whoH l2 (⟨yc, yn, yd, br, bl⟩ : Hd.K) → vb = (Hd.who l2 (⟨yc, yn, yd, br, bl⟩ : Hd.K)).isSome → (∀ k', Hd.who l2 k' = if k' = (⟨xc, xn, xd, ar, al⟩ : Hd.K) ∧ cd = 0 then some (⟨aloc, apax⟩ : Hd.H) else Hd.who l k') → (⟨yc, yn, yd, br, bl⟩ : Hd.K) ≠ (⟨xc, xn, xd, ar, al⟩ : Hd.K) → ⟨wloc, wpax⟩ = vl ∧ wb = vb) := fun l2 vl vb e1 e2 h hne => by
              have h1 : Hd.who l2 (⟨yc, yn, yd, br, bl⟩ : Hd.K) = Hd.who l (⟨yc, yn, yd, br, bl⟩ : Hd.K) := (h _).trans (if_neg fun e => hne e.1)
              refine ⟨?_, ?_⟩
              · rw [hwl, e1]; unfold Hd.whoH; rw [h1]
              · rw [hwb, e2, h1]
            have HCD := Lib.hid hcd
            have HONE := Lib.hid hone
            have HPOK := Lib.hid hpok
            have HFr : Hid (∀ w l2, Hd.Ap W w Bt p t m p2 m2 gx gy ga gb cap A rs' gs l l2 ⟨xc, xn, xd⟩ ⟨yc, yn, yd⟩ ⟨ak, af, ac, an, ad, ar, al, aloc, apax⟩ ⟨bk, bf, bc, bn, bd, br, bl, bloc, bpax⟩ → Calls Tryz.prog 14 #[.pointer (some ⟨p2, 0, none⟩), .agg #[.string xc, .int .i64 xn, .int .i64 xd], .agg #[.int .i64 ar, .int .u8 al], .agg #[.string aloc, .int .i64 apax]] w (Hd.FreeIs w Bt p2 t m2 A cap rs' gs l2 (⟨xc, xn, xd, ar, al⟩ : Hd.K) (⟨aloc, apax⟩ : Hd.H))) := fun w l2 h => free_any Bt p2 t m2 A cap rs' gs l2 (⟨xc, xn, xd, ar, al⟩ : Hd.K) (⟨aloc, apax⟩ : Hd.H) w h.c HKx.out
            clear hcd hone hpok hwl hwb HWf HLgA HKO HOks HSc
            go_upto_region 22 with (first
              | (have hgd := HP18; refine Rw.wpList_store_whole rfl 39 _ _ rfl w13.heap.size rfl [.string vloc, .int .i64 vpax] rfl _ _ HKn18.out Hd.iH rfl Hd.one2 ?_; intro w19 K19 f19; have HP19 := Lib.hid (HP18.out.stored HKn18.out f19 HP13.out.bt HP13.out.be.size); have HD19 := Lib.hid (HD18.out.stored HKn18.out f19); have hlt19 := HKw13.out.lt; have HKw19 := Lib.hid (HKw18.out.kept (f19.block _ HKw18.out.lt (show ¬ (w8.heap.size = w13.heap.size) by omega))); have HKn19 := Lib.hid K19; clear hlt19 K19 f19 cw0 cw1 cn0 cn1; clear cx0 cx1 cx2 cy0 cy1 cy2 ca5 ca6 ca7 ca8 co5 co6; obtain ⟨cx0, cx1, cx2, cy0, cy1, cy2, ca5, ca6, ca7, ca8, co5, co6⟩ := HCL.out w19 l2 HP19.out; have cw0 : w19.cell? ⟨w8.heap.size, 0, none⟩ = some (.string wloc) := HKw19.out.cell 0; have cw1 : w19.cell? ⟨w8.heap.size, 1, none⟩ = some (.int .i64 wpax) := HKw19.out.cell 1; have cn0 : w19.cell? ⟨w13.heap.size, 0, none⟩ = some (.string vloc) := HKn19.out.cell 0; have cn1 : w19.cell? ⟨w13.heap.size, 1, none⟩ = some (.int .i64 vpax) := HKn19.out.cell 1)
              | (have hgd := HP17; go_at_call 15; refine (HWC12.out w17 HP17.out).mono ?_; rintro e w18 ⟨rfl, hb18⟩; have HP18 := Lib.hid (HP17.out.kept hb18); have HD18 := Lib.hid (HD17.out.below hb18); have HKw18 := Lib.hid (HKw17.out.below' hb18); have HKn18 := Lib.hid (HKn17.out.below' hb18); clear hb18)
              | (go_at_call 18; refine (same_eq B2 B1 c2 c1 _ _ on w16 HE16.out HD16.out hon).mono ?_; rintro e w17 ⟨rfl, hb17⟩; have HP17 := Lib.hid (HP16.out.kept hb17); have HD17 := Lib.hid (HD16.out.below hb17); have HKw17 := Lib.hid (HKw16.out.below' hb17); have HKn17 := Lib.hid (HKn16.out.below' hb17); clear hb17 cw0 cw1 cn0 cn1; clear cx0 cx1 cx2 cy0 cy1 cy2 ca5 ca6 ca7 ca8 co5 co6; obtain ⟨cx0, cx1, cx2, cy0, cy1, cy2, ca5, ca6, ca7, ca8, co5, co6⟩ := HCL.out w17 l2 HP17.out; have cw0 : w17.cell? ⟨w8.heap.size, 0, none⟩ = some (.string wloc) := HKw17.out.cell 0; have cw1 : w17.cell? ⟨w8.heap.size, 1, none⟩ = some (.int .i64 wpax) := HKw17.out.cell 1; have cn0 : w17.cell? ⟨w13.heap.size, 0, none⟩ = some (.string wloc) := HKn17.out.cell 0; have cn1 : w17.cell? ⟨w13.heap.size, 1, none⟩ = some (.int .i64 wpax) := HKn17.out.cell 1)
              | (have hgd := HD15; go_at_call 19; refine (HOB.out w15 l2 HP15.out).mono ?_; rintro e w16 ⟨B2, c2, rfl, ho16, hb16⟩; have HP16 := Lib.hid (HP15.out.kept hb16); have HD16 := Lib.hid (HD15.out.below hb16); have HKw16 := Lib.hid (HKw15.out.below' hb16); have HKn16 := Lib.hid (HKn15.out.below' hb16); have HE16 := Lib.hid ho16; clear hb16 ho16)
              | (have hgd := HW12; refine Rw.wpList_store_whole rfl 39 _ _ rfl w13.heap.size rfl [.string wloc, .int .i64 wpax] rfl _ _ HKn14.out Hd.iH rfl Hd.one2 ?_; intro w15 K15 f15; have HP15 := Lib.hid (HP14.out.stored HKn14.out f15 HP13.out.bt HP13.out.be.size); have HD15 := Lib.hid (HD14.out.stored HKn14.out f15); have hlt15 := HKw13.out.lt; have HKw15 := Lib.hid (HKw14.out.kept (f15.block _ HKw14.out.lt (show ¬ (w8.heap.size = w13.heap.size) by omega))); have HKn15 := Lib.hid K15; clear hlt15 K15 f15; clear cx0 cx1 cx2 cy0 cy1 cy2 ca5 ca6 ca7 ca8 co5 co6; obtain ⟨cx0, cx1, cx2, cy0, cy1, cy2, ca5, ca6, ca7, ca8, co5, co6⟩ := HCL.out w15 l2 HP15.out; have cw0 : w15.cell? ⟨w8.heap.size, 0, none⟩ = some (.string wloc) := HKw15.out.cell 0; have cw1 : w15.cell? ⟨w8.heap.size, 1, none⟩ = some (.int .i64 wpax) := HKw15.out.cell 1; have cn0 : w15.cell? ⟨w13.heap.size, 0, none⟩ = some (.string wloc) := HKn15.out.cell 0; have cn1 : w15.cell? ⟨w13.heap.size, 1, none⟩ = some (.int .i64 wpax) := HKn15.out.cell 1)
              | (have hgd := HW12; refine Rw.wpList_alloc rfl 39 rfl [.string ⟨#[]⟩, .int .i64 0] Hd.zH ?_; intro w14 K14 b14 z14; have HP14 := Lib.hid (HP13.out.kept b14); have HD14 := Lib.hid (HD13.out.below b14); have HKw14 := Lib.hid (HKw13.out.below' b14); have HKn14 := Lib.hid K14; clear z14 K14 b14)
              | (have hgd := HW12; go_at_call 15; refine (HWB.out w12 l2 HP12.out).mono ?_; rintro e w13 ⟨rfl, hb13⟩; have HP13 := Lib.hid (HP12.out.kept hb13); have HD13 := Lib.hid (HD12.out.below hb13); have HKw13 := Lib.hid (HKw12.out.below' hb13); clear hb13)
              | (go_at_call 12; refine (HTk.out w11 HP11.out).mono ?_; rintro e w12 hT12; obtain ⟨rfl, l2, hP12, hf12, hw12⟩ := HTT.out w11 w12 e HP11.out hT12; have HP12 := Lib.hid hP12; have HD12 := Lib.hid (HP11.out.own hf12 HD11.out); have HKw12 := Lib.hid (HP11.out.bk hf12 HKw11.out); have HW12 := Lib.hid hw12; obtain ⟨⟨vloc, vpax⟩, hvl⟩ : ∃ y, y = Hd.whoH l2 (⟨yc, yn, yd, br, bl⟩ : Hd.K) := ⟨_, rfl⟩; obtain ⟨vb, hvb⟩ : ∃ y, y = (Hd.who l2 (⟨yc, yn, yd, br, bl⟩ : Hd.K)).isSome := ⟨_, rfl⟩; have HWC12 := Lib.hid (HWCg.out l2 _ _ hvl hvb); have HNE := Lib.hid (HNEg.out l2 _ _ hvl hvb hw12); clear hT12 hP12 hf12 hw12 hvl hvb; clear cx0 cx1 cx2 cy0 cy1 cy2 ca5 ca6 ca7 ca8 co5 co6; obtain ⟨cx0, cx1, cx2, cy0, cy1, cy2, ca5, ca6, ca7, ca8, co5, co6⟩ := HCL.out w12 l2 HP12.out)
              | (go_at_call 19; refine (HOB.out w10 l HP10.out).mono ?_; rintro e w11 ⟨B1, c1, rfl, ho11, hb11⟩; have HP11 := Lib.hid (HP10.out.kept hb11); have HD11 := Lib.hid ho11; have HKw11 := Lib.hid (HKw10.out.below' hb11); clear hb11 ho11; clear cx0 cx1 cx2 cy0 cy1 cy2 ca5 ca6 ca7 ca8 co5 co6; obtain ⟨cx0, cx1, cx2, cy0, cy1, cy2, ca5, ca6, ca7, ca8, co5, co6⟩ := HCL.out w11 l HP11.out)
              | (refine Rw.wpList_store_whole rfl 39 _ _ rfl w8.heap.size rfl [.string wloc, .int .i64 wpax] rfl _ _ HKw9.out Hd.iH rfl Hd.one2 ?_; intro w10 K10 f10; have HP10 := Lib.hid (HP9.out.stored HKw9.out f10 HP8.out.bt HP8.out.be.size); have HKw10 := Lib.hid K10; clear K10 f10; clear cx0 cx1 cx2 cy0 cy1 cy2 ca5 ca6 ca7 ca8 co5 co6; obtain ⟨cx0, cx1, cx2, cy0, cy1, cy2, ca5, ca6, ca7, ca8, co5, co6⟩ := HCL.out w10 l HP10.out)
              | (refine Rw.wpList_alloc rfl 39 rfl [.string ⟨#[]⟩, .int .i64 0] Hd.zH ?_; intro w9 K9 b9 z9; have HP9 := Lib.hid (HP8.out.kept b9); have HKw9 := Lib.hid K9; clear z9 K9 b9)
              | (go_at_call 15; refine (HWB.out w7 l HP7.out).mono ?_; rintro e w8 ⟨rfl, hb8⟩; have HP8 := Lib.hid (HP7.out.kept hb8); clear hb8))
            clear HWB HWCg HOB HTk HTT HNEg HWC12 HKw13 HP13 HP12 HP11 HP10 HP9 HP8 HP7
            go_cut [144] from 21 (fun s144 wc => Hid (s144 = .bool false ∧ Below w19.heap.size w19 wc))
            case first =>
              by_cases e1 : xc = yc
              · subst e1
                by_cases e2 : xn = yn
                · subst e2
                  by_cases e3 : xd = yd
                  · subst e3
                    by_cases e4 : ar = br
                    · subst e4
                      by_cases e5 : al = bl
                      · subst e5
                        go_wp2
                        go_meet
                        exact ⟨rfl, Below.refl _ _⟩
                      · obtain ⟨g1, g2⟩ := HNE.out (fun e => by injection e with h1 h2 h3 h4 h5; exact e5 h5.symm)
                        injection g1 with g3 g4
                        subst g2 g3 g4
                        have hh1 : (al == bl) = false := by simpa using e5
                        clear e5
                        go_wp2
                        go_meet
                        exact ⟨rfl, Below.refl _ _⟩
                    · obtain ⟨g1, g2⟩ := HNE.out (fun e => by injection e with h1 h2 h3 h4 h5; exact e4 h4.symm)
                      injection g1 with g3 g4
                      subst g2 g3 g4
                      have hh1 : (ar == br) = false := by simpa using e4
                      clear e4
                      go_wp2
                      go_meet
                      exact ⟨rfl, Below.refl _ _⟩
                  · obtain ⟨g1, g2⟩ := HNE.out (fun e => by injection e with h1 h2 h3 h4 h5; exact e3 h3.symm)
                    injection g1 with g3 g4
                    subst g2 g3 g4
                    have hh1 : (xd == yd) = false := by simpa using e3
                    clear e3
                    go_wp2
                    go_meet
                    exact ⟨rfl, Below.refl _ _⟩
                · obtain ⟨g1, g2⟩ := HNE.out (fun e => by injection e with h1 h2 h3 h4 h5; exact e2 h2.symm)
                  injection g1 with g3 g4
                  subst g2 g3 g4
                  have hh1 : (xn == yn) = false := by simpa using e2
                  clear e2
                  go_wp2
                  go_meet
                  exact ⟨rfl, Below.refl _ _⟩
              · obtain ⟨g1, g2⟩ := HNE.out (fun e => by injection e with h1 h2 h3 h4 h5; exact e1 h1.symm)
                injection g1 with g3 g4
                subst g2 g3 g4
                have hh1 := Fl.str_ne e1
                clear e1
                go_wp2
                go_meet
                exact ⟨rfl, Below.refl _ _⟩
            case rest =>
              obtain ⟨w20, ew20⟩ : ∃ wd, wd = wc := ⟨_, rfl⟩
              subst ew20
              obtain ⟨rfl, hb20⟩ := hcut.out
              have HP20 := Lib.hid (HP19.out.kept hb20)
              have HD20 := Lib.hid (HD19.out.below hb20)
              clear hcut hb20 cx0 cx1 cx2 cy0 cy1 cy2 ca5 ca6 ca7 ca8 co5 co6 cw0 cw1 cn0 cn1
              obtain ⟨cx0, cx1, cx2, cy0, cy1, cy2, ca5, ca6, ca7, ca8, co5, co6⟩ := HCL.out w20 l2 HP20.out
              by_cases hz : cd = 0
              · subst hz
                obtain ⟨hchk, hnone⟩ := Hd.takeC_zero HCD.out.symm
                have hw2 : ∀ k', Hd.who l2 k' = if k' = (⟨xc, xn, xd, ar, al⟩ : Hd.K) then some (⟨aloc, apax⟩ : Hd.H) else Hd.who l k' := fun k' => by rw [HW12.out]; simp
                obtain ⟨on2, hon2⟩ : ∃ y, Hd.onL (rs'.map Fl.R.f) gs l2 ⟨xc, xn, xd⟩ = y := ⟨_, rfl⟩
                have hlen2 : on2.length = on.length + 1 := by
                  rw [← hon2, HONE.out]
                  exact Hd.on_more (s := (ar, al)) HPOK.out hchk hnone hw2
                have hq : ((on2.length : Int) == (on.length : Int) + 1) = true := by rw [hlen2]; simp
                have HFF : Hid (∀ w w' e, Hd.Ap W w Bt p t m p2 m2 gx gy ga gb cap A rs' gs l l2 ⟨xc, xn, xd⟩ ⟨yc, yn, yd⟩ ⟨ak, af, ac, an, ad, ar, al, aloc, apax⟩ ⟨bk, bf, bc, bn, bd, br, bl, bloc, bpax⟩ → Hd.FreeIs w Bt p2 t m2 A cap rs' gs l2 (⟨xc, xn, xd, ar, al⟩ : Hd.K) (⟨aloc, apax⟩ : Hd.H) e w' → e = .returned (.int .i64 0) ∧ ∃ l3, Hd.Ap W w' Bt p t m p2 m2 gx gy ga gb cap A rs' gs l l3 ⟨xc, xn, xd⟩ ⟨yc, yn, yd⟩ ⟨ak, af, ac, an, ad, ar, al, aloc, apax⟩ ⟨bk, bf, bc, bn, bd, br, bl, bloc, bpax⟩ ∧ Rw.Fr (· = m2) w w' ∧ Hd.onL (rs'.map Fl.R.f) gs l3 ⟨xc, xn, xd⟩ = on) := fun w w' e h hT => by
                  obtain ⟨he, l3, h1, h2, h3⟩ := h.free hchk hnone hw2 hT
                  exact ⟨he, l3, h1, h2, (Hd.onL_congr h3).trans HONE.out.symm⟩
                have HFr2 := Lib.hid (fun w h => HFr.out w l2 h)
                clear hchk hnone hw2 HCD HONE HPOK HW12 hlen2 HNE HFr
                go_wp2_with (first
                  | (go_at_call 18; refine (same_eq B4 B1 c4 c1 _ _ on w23 HE23.out HD23.out hon).mono ?_; rintro e w24 ⟨rfl, hb24⟩; have HP24 := Lib.hid (HP23.out.kept hb24))
                  | (have hgd := HP22; go_at_call 19; refine (HOC.out w22 l3 HP22.out HL3.out).mono ?_; rintro e w23 ⟨B4, c4, rfl, ho23, hb23⟩; have HP23 := Lib.hid (HP22.out.kept hb23); have HD23 := Lib.hid (HD22.out.below hb23); have HE23 := Lib.hid ho23; clear hb23 ho23)
                  | (go_at_call 19; refine (HOC.out w20 l2 HP20.out hon2).mono ?_; rintro e w21 ⟨B3, c3, rfl, ho21, hb21⟩; have HP21 := Lib.hid (HP20.out.kept hb21); have HD21 := Lib.hid (HD20.out.below hb21); have HE21 := Lib.hid ho21; clear hb21 ho21; clear cx0 cx1 cx2 cy0 cy1 cy2 ca5 ca6 ca7 ca8 co5 co6; obtain ⟨cx0, cx1, cx2, cy0, cy1, cy2, ca5, ca6, ca7, ca8, co5, co6⟩ := HCL.out w21 l2 HP21.out)
                  | (go_at_call 14; refine (HFr2.out w21 HP21.out).mono ?_; rintro e w22 hF22; obtain ⟨rfl, l3, hP22, hf22, ho22⟩ := HFF.out w21 w22 e HP21.out hF22; have HP22 := Lib.hid hP22; have HL3 := Lib.hid ho22; have HD22 := Lib.hid (HP21.out.own hf22 HD21.out); clear hF22 hP22 hf22 ho22; clear cx0 cx1 cx2 cy0 cy1 cy2 ca5 ca6 ca7 ca8 co5 co6; obtain ⟨cx0, cx1, cx2, cy0, cy1, cy2, ca5, ca6, ca7, ca8, co5, co6⟩ := HCL.out w22 l3 HP22.out))
                go_ret
                exact ⟨rfl, HP24.out.be⟩
              · have hz2 : (cd != 0) = true := by simpa using hz
                have hz3 : (cd == 0) = false := by simpa using hz
                have hon2 : Hd.onL (rs'.map Fl.R.f) gs l2 ⟨xc, xn, xd⟩ = on := (Hd.onL_congr fun k' => (HW12.out k').trans (if_neg fun e => hz e.2)).trans HONE.out.symm
                clear hz HCD HONE HPOK HW12 HNE HFr
                go_wp2_with (first
                  | (go_at_call 18; refine (same_eq B3 B1 c3 c1 _ _ on w21 HE21.out HD21.out hon).mono ?_; rintro e w22 ⟨rfl, hb22⟩; have HP22 := Lib.hid (HP21.out.kept hb22))
                  | (go_at_call 19; refine (HOC.out w20 l2 HP20.out hon2).mono ?_; rintro e w21 ⟨B3, c3, rfl, ho21, hb21⟩; have HP21 := Lib.hid (HP20.out.kept hb21); have HD21 := Lib.hid (HD20.out.below hb21); have HE21 := Lib.hid ho21; clear hb21 ho21))
                go_ret
                exact ⟨rfl, HP22.out.be⟩
  · have HBg := Lib.hid (fun w (hb : Below W.heap.size W w) => begun_no fA pA rs ps fc pc W.heap.size w (hF.below hb (Nat.le_refl _)) (hP.below hb (Nat.le_refl _)) hb.size hl hl2 hgood)
    obtain ⟨ak, af, ac, an, ad, ar, al, aloc, apax⟩ := aa
    obtain ⟨bk, bf, bc, bn, bd, br, bl, bloc, bpax⟩ := oo
    unfold Hd.av
    simp only
    clear hF hP hS hoks hgood HSc HOks haa hoo
    generalize rs.length = n at *
    generalize ps.length = n2 at *
    go_enter Tryz.func6, Tryz.ntmps6
    go_wp2_with (first
      | (refine Rw.wpList_box rfl 25 _ rfl [.slice fA n fc, .slice pA n2 pc] rfl ?_; intro w1 K1 b1 z1; have HB1 := Lib.hid b1; have HK1 := Lib.hid K1; clear z1 b1 K1)
      | (have hgd := HKa2; refine Rw.wpList_box rfl 41 _ rfl [.int .i64 bk, .int .i64 bf, .string bc, .int .i64 bn, .int .i64 bd, .int .i64 br, .int .u8 bl, .string bloc, .int .i64 bpax] rfl ?_; intro w3 K3 b3 z3; have HB3 := Lib.hid (HB2.out.trans (b3.mono HB2.out.size)); have HK3 := Lib.hid (HK2.out.below' b3); have HKa3 := Lib.hid (HKa2.out.below' b3); have HKb3 := Lib.hid K3; have HAw := Lib.hid (awake_any w3); clear z3 b3 K3)
      | (refine Rw.wpList_box rfl 41 _ rfl [.int .i64 ak, .int .i64 af, .string ac, .int .i64 an, .int .i64 ad, .int .i64 ar, .int .u8 al, .string aloc, .int .i64 apax] rfl ?_; intro w2 K2 b2 z2; have HB2 := Lib.hid (HB1.out.trans (b2.mono HB1.out.size)); have HK2 := Lib.hid (HK1.out.below' b2); have HKa2 := Lib.hid K2; clear z2 b2 K2)
      | (go_at_call 7; refine HAw.out.mono ?_; rintro e w4 ⟨rfl, hb4⟩; have HB4 := Lib.hid (HB3.out.trans (hb4.mono HB3.out.size)); have HK4 := Lib.hid (HK3.out.below' hb4); have HKa4 := Lib.hid (HKa3.out.below' hb4); have HKb4 := Lib.hid (HKb3.out.below' hb4); have c0 : w4.cell? ⟨W.heap.size, 0, none⟩ = some (.slice fA n fc) := HK4.out.cell 0; have c1 : w4.cell? ⟨W.heap.size, 1, none⟩ = some (.slice pA n2 pc) := HK4.out.cell 1; have HBg4 := Lib.hid (HBg.out w4 HB4.out); clear hb4)
      | (go_at_call 8; refine HBg4.out.mono ?_; rintro e w5 ⟨rfl, hb5⟩; have HB5 := Lib.hid (HB4.out.trans (hb5.mono HB4.out.size))))
    go_ret
    exact ⟨rfl, HB5.out⟩
end Go.Proofs.YtfodabbmjggieaaGreat
