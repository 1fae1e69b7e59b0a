/- StockBack's walk. -/
import Derived.Test.YtmcekicaigbccaaGreatStNvw
namespace Go.Proofs.YtmcekicaigbccaaGreat
open Go.ChangeShapes Go.WideShapes Go.ChangeAt Go.RowKit
set_option linter.unusedVariables false

namespace St
theorem sell_loop {w w4 : World} {Bt p t m : Nat} {rs' : List Fl.R} {l : List (K × Int)} {k : K} {n : Int} (h : PutIs w Bt p t m rs' l k n w4) : Some w4 Bt p t m rs' ∧ Rw.Fr (· = m) w w4 := by
  obtain ⟨l', h1, _, h3⟩ := h
  exact ⟨⟨l', h1⟩, h3⟩
theorem sell0e {rs : List Fl.R} {l : List (K × Int)} {k : K} {n : Int} (h : sellE rs l k n = 0) : err rs k = 0 ∧ sold l k + n ≤ lvl rs k := by
  unfold sellE sellE' at h
  split at h
  · split at h
    · split at h
      · cases h
      · exact ⟨by assumption, by omega⟩
    · rename_i h1
      exact absurd h h1
  · cases h
theorem sell1 {rs : List Fl.R} {l : List (K × Int)} {k : K} {n : Int} (h1 : 1 ≤ n) (h2 : n ≤ 9) (he : err rs k = 0) (hs : sold l k + n ≤ lvl rs k) : sellE rs l k n = 0 := by
  have hp : party n = true := by simp [party, Fl.inI, h1, h2]
  unfold sellE sellE'
  rw [if_pos hp, if_pos he, if_neg (by omega)]
theorem cancel1 {rs : List Fl.R} {l : List (K × Int)} {k : K} {n : Int} (h1 : 1 ≤ n) (h2 : n ≤ 9) (he : err rs k = 0) (hs : n ≤ sold l k) : cancelE rs l k n = 0 := by
  have hp : party n = true := by simp [party, Fl.inI, h1, h2]
  unfold cancelE cancelE'
  rw [if_pos hp, if_pos he, if_neg (by omega)]
theorem sellA0 {rs : List Fl.R} {l : List (K × Int)} {k : K} {n : Int} (h : sellE rs l k n = 0) : sellA rs l k n = sold l k + n := by
  unfold sellA; rw [if_pos h]
theorem cancelA0 {rs : List Fl.R} {l : List (K × Int)} {k : K} {n : Int} (h : cancelE rs l k n = 0) : cancelA rs l k n = sold l k - n := by
  unfold cancelA; rw [if_pos h]
end St
set_option maxHeartbeats 4000000 in
set_option maxRecDepth 20000 in
theorem back_walk (W : World) (A : Option Addr) (rs : List Fl.R) (cap : Nat) (hF : Fl.Fls W W.heap.size A rs ∧ rs.length ≤ 9223372036854775807) (A1 : Option Addr) (sc : List St.A) (cap1 : Nat) (hS : Fm.Acts W W.heap.size A1 sc ∧ sc.length ≤ 9223372036854775807 ∧ ∀ a ∈ sc, St.OkA a) (a : St.A) (ha : St.OkA a) (pt : Int) (hpt : (Lit.int .i64 pt).wf = true) :
    Calls Tryz.prog 6 #[.slice A rs.length cap, .slice A1 sc.length cap1, St.av a, .int .i64 pt] W fun e w' => e = .returned (.bool true) ∧ Below W.heap.size W w' := by
  obtain ⟨hF, hl⟩ := hF
  obtain ⟨hS, hls, hoks⟩ := hS
  obtain ⟨c0, c1⟩ := Fm.i64b hpt
  have HF := Lib.hid hF
  have HSc := Lib.hid hS
  have HOks := Lib.hid hoks
  obtain ⟨w1, ew1⟩ : ∃ x, x = W.alloc (.cells (St.acs a).toArray 36) := ⟨_, rfl⟩
  have hb1 : Below W.heap.size W w1 := by rw [ew1]; exact (Below.refl _ _).alloc (Nat.le_refl _) _
  have hz1 : w1.heap.size = W.heap.size + 1 := by rw [ew1]; simp
  have KA : Rw.Blk w1 W.heap.size 36 (St.acs a) := by
    rw [ew1]
    exact heap_alloc_new W _
  have HB1 := Lib.hid hb1
  have HKA := Lib.hid KA
  have HOkA := Lib.hid ha
  have HAw := Lib.hid (awake_any w1)
  clear hF hS hoks hb1 KA ha hpt
  by_cases hgood : St.Good rs
  · have HBg := Lib.hid (fun w (hb : Below W.heap.size W w) => begun_ok A rs cap W.heap.size w (HF.out.below hb (Nat.le_refl _)) hb.size hgood)
    have hrl := hgood.1
    clear hgood
    by_cases hlen : 200 < sc.length
    · have hd : decide (200 < (sc.length : Int)) = true := by simp; omega
      have hd2 : decide (200 < sc.length) = true := by simp; omega
      rw [ew1] at HAw HB1 HKA hz1
      unfold St.av
      unfold St.acs at HAw HB1 HKA hz1
      clear ew1
      go_enter Tryz.func6, Tryz.ntmps6
      go_wp2_with (first
        | (go_at_call 8; refine HAw.out.mono ?_; rintro e w2 ⟨rfl, hb2⟩; have HB2 := Lib.hid (HB1.out.trans (hb2.mono HB1.out.size)); have HKA2 := Lib.hid (HKA.out.below' hb2))
        | (go_at_call 9; refine (HBg.out _ HB2.out).mono ?_; rintro e w3 ⟨Bt, p, t, m, rs', rfl, hA, hpr, hpp, hmm, hb3⟩; have HB3 := Lib.hid (HB2.out.trans (hb3.mono HB2.out.size)); have HA3 := Lib.hid hA; have HKA3 := Lib.hid (HKA2.out.below' hb3); have hs23 := hb3.size; have hs2 := HB2.out.size; have hWm : W.heap.size ≤ m := Nat.le_trans hs2 hmm; have hA0 := HKA2.out.lt; clear hA hpr hb3))
      go_ret
      exact ⟨rfl, HB3.out⟩
    · have hd : decide (200 < (sc.length : Int)) = false := by simp; omega
      have hd2 : decide (200 < sc.length) = false := by simp; omega
      rw [ew1] at HAw HB1 HKA hz1
      unfold St.av
      unfold St.acs at HAw HB1 HKA hz1
      clear ew1
      go_enter Tryz.func6, Tryz.ntmps6
      go_wp2_with (first
        | (go_at_call 8; refine HAw.out.mono ?_; rintro e w2 ⟨rfl, hb2⟩; have HB2 := Lib.hid (HB1.out.trans (hb2.mono HB1.out.size)); have HKA2 := Lib.hid (HKA.out.below' hb2))
        | (go_at_call 9; refine (HBg.out _ HB2.out).mono ?_; rintro e w3 ⟨Bt, p, t, m, rs', rfl, hA, hpr, hpp, hmm, hb3⟩; have HB3 := Lib.hid (HB2.out.trans (hb3.mono HB2.out.size)); have HA3 := Lib.hid hA; have HKA3 := Lib.hid (HKA2.out.below' hb3); have hs23 := hb3.size; have hs2 := HB2.out.size; have hWm : W.heap.size ≤ m := Nat.le_trans hs2 hmm; have hA0 := HKA2.out.lt; clear hA hpr hb3))
      have hWz : W.heap.size < m := by omega
      have HI : Hid (St.Some w3 Bt p t m rs') := ⟨[], HA3.out⟩
      have hln : sc.length ≤ 200 := by omega
      clear HKA HKA2 HA3 HB1 HB2 hb2 HAw HBg hA0
      go_loopw [11] (fun i wr => ∃ k : Nat, k ≤ sc.length ∧ i = .int .i64 k ∧ Hid (St.Some wr Bt p t m rs') ∧ Hid (Below W.heap.size W wr) ∧ Hid (Rw.Blk wr W.heap.size 36 (St.acs a))) (fun i _ => sc.length - (intOf i).toNat)
      case atStart => exact ⟨0, by omega, rfl, HI.out, HB3.out, HKA3.out⟩
      case round =>
        obtain ⟨wx, ewx⟩ : ∃ x, x = wr := ⟨_, rfl⟩
        subst ewx
        obtain ⟨k, hk, rfl, HIx, HBx, HKAx⟩ := hrel
        by_cases hlt : k < sc.length
        · obtain ⟨b, off, hA1, hbB, hrow⟩ := HSc.out (by omega)
          have HR : Hid (∀ w', Below W.heap.size W w' → w'.rangeAt b (off + k * 7) (St.acs sc[k])) := fun w' hb j v hv => (hb.cell (p := ⟨b, _, none⟩) hbB).trans (hrow k hlt j v hv)
          have HOk := Lib.hid (HOks.out _ (List.getElem_mem hlt))
          have hbx := HBx.out.size
          generalize sc[k] = x at *
          subst hA1
          clear hrow
          obtain ⟨q0, q1, q2, q3, q4, q5, q6⟩ := St.acts_cells (HR.out wx HBx.out)
          by_cases hkd : x.kind = 0
          · have HS : Hid (∀ w', Below W.heap.size W w' → w'.cell? ⟨b, off + k * 7, none⟩ = some (.int .i64 0) ∧ w'.cell? ⟨b, off + k * 7 + 1, none⟩ = some (.int .i64 x.fl) ∧ w'.cell? ⟨b, off + k * 7 + 2, none⟩ = some (.int .i64 x.n) ∧ w'.cell? ⟨b, off + k * 7 + 3, none⟩ = some (.string x.car) ∧ w'.cell? ⟨b, off + k * 7 + 4, none⟩ = some (.int .i64 x.num) ∧ w'.cell? ⟨b, off + k * 7 + 5, none⟩ = some (.int .i64 x.day) ∧ w'.cell? ⟨b, off + k * 7 + 6, none⟩ = some (.int .u8 x.cls)) := fun w' hb => by
              obtain ⟨q0, q1, q2, q3, q4, q5, q6⟩ := St.acts_cells (HR.out w' hb)
              rw [hkd] at q0
              exact ⟨q0, q1, q2, q3, q4, q5, q6⟩
            rw [hkd] at q0
            obtain ⟨l0, hA0⟩ := HIx.out
            have HAx := Lib.hid hA0
            have HLg := Lib.hid (fun w (hb : Below W.heap.size W w) => leg_any A rs cap W.heap.size x w (HF.out.below hb (Nat.le_refl _)) hb.size (by omega) HOk.out)
            have HOkK := Lib.hid (St.kOf_ok (rs := rs) HOk.out HF.out.wf)
            have hcl := St.kOf_cls (rs := rs) (a := x)
            obtain ⟨kk, hkk⟩ : ∃ kk, kk = St.kOf rs x := ⟨_, rfl⟩
            rw [← hkk] at HLg HOkK hcl
            have HSe := Lib.hid (fun w (hb : Below wx.heap.size wx w) => sell_any Bt p t m rs' l0 kk x.n w (HAx.out.kept hb) HOkK.out HOk.out.n0 HOk.out.n1)
            rw [hcl] at HSe
            generalize St.sellE rs' l0 kk x.n = cd at *
            generalize St.sellA rs' l0 kk x.n = af at *
            unfold St.av at HLg
            rw [hkd] at HLg
            obtain ⟨xk, xf, xn, xc, xm, xd, xl⟩ := x
            simp only at hkd HLg HSe HS q0 q1 q2 q3 q4 q5 q6 hcl
            subst hkd
            clear hA0 HR HOk hkk hcl
            go_wp2
            go_region_held3 (fun w' => w'.cell? ⟨b, off + k * 7, none⟩ = some (.int .i64 0) ∧ w'.cell? ⟨b, off + k * 7 + 1, none⟩ = some (.int .i64 xf) ∧ w'.cell? ⟨b, off + k * 7 + 2, none⟩ = some (.int .i64 xn) ∧ w'.cell? ⟨b, off + k * 7 + 3, none⟩ = some (.string xc) ∧ w'.cell? ⟨b, off + k * 7 + 4, none⟩ = some (.int .i64 xm) ∧ w'.cell? ⟨b, off + k * 7 + 5, none⟩ = some (.int .i64 xd) ∧ w'.cell? ⟨b, off + k * 7 + 6, none⟩ = some (.int .u8 xl)) (first | exact HS.out _ HBx.out | exact HS.out _ HBx.out.drew | exact HS.out _ HB5.out | exact HS.out _ HB6.out) (first
              | (go_at_call 17; refine (HLg.out _ HBx.out.drew).mono ?_; rintro e w5 ⟨rfl, hb5⟩; have HBx5 : Hid (Below wx.heap.size wx w5) := (Below.refl _ _).drew.trans hb5; have HB5 := Lib.hid (HBx.out.trans (HBx5.out.mono hbx)))
              | (go_at_call 19; refine (HSe.out _ HBx5.out).mono ?_; rintro e w6 ⟨rfl, hP6⟩; obtain ⟨hI6, hf6⟩ := St.sell_loop hP6; have HI6 := Lib.hid hI6; have HF6 := Lib.hid hf6; have HB6 : Hid (Below W.heap.size W w6) := HB5.out.trans (hf6.below (B := W.heap.size) HB5.out.size (fun k hk => by have : k = m := hk; omega)); clear hI6 hf6 hP6))
            go_wp2
            have HKA6 : Hid (Rw.Blk w6 W.heap.size 36 (St.acs a)) := (HKAx.out.below' HBx5.out).kept (HF6.out.block _ (HKAx.out.below' HBx5.out).lt (fun e => by have e : W.heap.size = m := e; omega))
            go_roundw
            case rel => exact ⟨k + 1, by omega, by go_num, HI6.out, HB6.out, HKA6.out⟩
            case measure => simp [intOf]; omega
          · have hkd2 : (x.kind == 0) = false := by simp [hkd]
            clear hkd
            go_wp2
            go_roundw
            case rel => exact ⟨k + 1, by omega, by go_num, HIx.out, HBx.out, HKAx.out⟩
            case measure => simp [intOf]; omega
        · obtain ⟨l0, hA0⟩ := HIx.out
          have HAx := Lib.hid hA0
          have hbx := HBx.out.size
          have HLg := Lib.hid (fun w (hb : Below W.heap.size W w) => leg_any A rs cap W.heap.size a w (HF.out.below hb (Nat.le_refl _)) hb.size (by omega) HOkA.out)
          have HOkx := Lib.hid (St.kOf_ok (rs := rs) HOkA.out HF.out.wf)
          have hcl := St.kOf_cls (rs := rs) (a := a)
          obtain ⟨kx, hkx⟩ : ∃ kk, kk = St.kOf rs a := ⟨_, rfl⟩
          rw [← hkx] at HLg HOkx hcl
          have hbd := hA0.bound kx
          obtain ⟨so, hso⟩ : ∃ x, x = St.sold l0 kx := ⟨_, rfl⟩
          obtain ⟨cd, hcd⟩ : ∃ x, x = St.sellE rs' l0 kx a.n := ⟨_, rfl⟩
          obtain ⟨af, haf⟩ : ∃ x, x = St.sellA rs' l0 kx a.n := ⟨_, rfl⟩
          have HSO0 : Hid (St.sold l0 kx = so) := hso.symm
          have HCD : Hid (St.sellE rs' l0 kx a.n = cd) := hcd.symm
          have HAF : Hid (St.sellA rs' l0 kx a.n = af) := haf.symm
          have haf2 : af = if cd = 0 then so + a.n else so := by rw [haf, hcd, hso]; rfl
          have hpar : cd = 0 → 1 ≤ a.n ∧ a.n ≤ 9 := fun h => St.sell_party (hcd.symm.trans h)
          have hpa0 : cd = 0 → St.err rs' kx = 0 ∧ so + a.n ≤ St.lvl rs' kx := fun h => by rw [hso]; exact St.sell0e (hcd.symm.trans h)
          rw [← hso] at hbd
          obtain ⟨hbd0, hbd1, hbd2⟩ := hbd
          unfold St.av at HLg
          obtain ⟨q0, q1, q2, q3, q4, q5, q6⟩ := St.acts_cells HKAx.out.range
          clear hA0 hso hcd haf hkx
          by_cases hcd0 : cd = 0
          · obtain ⟨hn0, hn1⟩ := hpar hcd0
            obtain ⟨hse, hsl⟩ := hpa0 hcd0
            rw [if_pos hcd0] at haf2
            clear hpar hpa0
            subst hcd0
            subst haf2
            by_cases hp1 : 1 ≤ pt
            · have g1 : decide (1 ≤ pt) = true := by simp; omega
              by_cases hp2 : pt < a.n
              · have g2 : decide (pt < a.n) = true := by simp; omega
                go_wp2_with (first
                  | (go_at_call 17
                     refine (HLg.out _ HBx.out).mono ?_
                     rintro e w8 ⟨rfl, hb8⟩
                     have hs8 := hb8.size
                     obtain ⟨w9, ew9⟩ : ∃ y, y = w8.alloc (.cells #[.string kx.car, .int .i64 kx.num, .int .i64 kx.day] 34) := ⟨_, rfl⟩
                     have hb9 : Below w8.heap.size w8 w9 := by rw [ew9]; exact (Below.refl _ _).alloc (Nat.le_refl _) _
                     have hz9 : w8.heap.size < w9.heap.size := by rw [ew9]; simp
                     have hb89 := hb8.trans (hb9.mono hs8)
                     have HKX9 : Hid (Rw.Blk w9 w8.heap.size 34 [.string kx.car, .int .i64 kx.num, .int .i64 kx.day]) := by rw [ew9]; exact heap_alloc_new w8 _
                     have HKA9 := Lib.hid (HKAx.out.below' hb89)
                     have HA9 := Lib.hid (HAx.out.kept hb89)
                     have HB9 := Lib.hid (HBx.out.trans (hb89.mono hbx))
                     have HS9 := Lib.hid (ssold_any Bt p t m rs' l0 kx w9 HA9.out HOkx.out)
                     rw [hcl, HSO0.out] at HS9
                     have u2 : w9.cell? ⟨W.heap.size, 2, none⟩ = some (.int .i64 a.n) := HKA9.out.cell 2
                     have u6 : w9.cell? ⟨W.heap.size, 6, none⟩ = some (.int .u8 a.cls) := HKA9.out.cell 6
                     have ua : w9.cell? ⟨w8.heap.size, 0, none⟩ = some (.string kx.car) := HKX9.out.cell 0
                     have ub : w9.cell? ⟨w8.heap.size, 1, none⟩ = some (.int .i64 kx.num) := HKX9.out.cell 1
                     have uc : w9.cell? ⟨w8.heap.size, 2, none⟩ = some (.int .i64 kx.day) := HKX9.out.cell 2
                     rw [ew9] at HS9 HB9 HA9 HKA9 HKX9 hz9 u2 u6 ua ub uc
                     clear ew9 hb9 hb8 hb89 q0 q1 q2 q3 q4 q5 q6)
                  | (go_at_call 18
                     refine HS9.out.mono ?_
                     rintro e w10 ⟨rfl, hb10⟩
                     have HB10 := Lib.hid (HB9.out.trans (hb10.mono HB9.out.size))
                     have HKA10 := Lib.hid (HKA9.out.below' hb10)
                     have HKX10 := Lib.hid (HKX9.out.below' hb10)
                     have HA10 := Lib.hid (HA9.out.kept hb10)
                     have hs10 : w8.heap.size < w10.heap.size := HKX10.out.lt
                     have HCo := Lib.hid (copy_any Bt p t m rs' l0 w10 HA10.out)
                     clear u2 u6 ua ub uc hb10)
                  | (go_at_call 23
                     refine HCo.out.mono ?_
                     rintro e w11 ⟨p2, m2, rfl, hC11, hp2, hm2, hb11⟩
                     have HC11 := Lib.hid hC11
                     have HA11 := Lib.hid (HA10.out.kept hb11)
                     have HB11 := Lib.hid (HB10.out.trans (hb11.mono HB10.out.size))
                     have HKA11 := Lib.hid (HKA10.out.below' hb11)
                     have HKX11 := Lib.hid (HKX10.out.below' hb11)
                     have HSe := Lib.hid (sell_any Bt p t m rs' l0 kx a.n w11 HA11.out HOkx.out HOkA.out.n0 HOkA.out.n1)
                     rw [hcl, HCD.out, HAF.out] at HSe
                     clear hC11 hb11
                     have v2 : w11.cell? ⟨W.heap.size, 2, none⟩ = some (.int .i64 a.n) := HKA11.out.cell 2
                     have v6 : w11.cell? ⟨W.heap.size, 6, none⟩ = some (.int .u8 a.cls) := HKA11.out.cell 6
                     have va : w11.cell? ⟨w8.heap.size, 0, none⟩ = some (.string kx.car) := HKX11.out.cell 0
                     have vb : w11.cell? ⟨w8.heap.size, 1, none⟩ = some (.int .i64 kx.num) := HKX11.out.cell 1
                     have vc : w11.cell? ⟨w8.heap.size, 2, none⟩ = some (.int .i64 kx.day) := HKX11.out.cell 2)
                  | (go_at_call 19
                     refine HSe.out.mono ?_
                     rintro e w12 ⟨rfl, l1, hA12, hPu, hf12⟩
                     have HA12 := Lib.hid hA12
                     have hmx : m < wx.heap.size := HAx.out.map.lt
                     have HC12 := Lib.hid (HC11.out.fr hf12 (fun k hk => by have : k = m := hk; rw [this]; exact hA12.lom) (fun e => by have e : p2 = m := e; omega) (fun e => by have e : m2 = m := e; omega))
                     have HB12 := Lib.hid (HB11.out.trans (hf12.below (B := W.heap.size) HB11.out.size (fun k hk => by have : k = m := hk; omega)))
                     have HKA12 := Lib.hid (HKA11.out.kept (hf12.block _ HKA11.out.lt (fun e => by have e : W.heap.size = m := e; omega)))
                     have HKX12 := Lib.hid (HKX11.out.kept (hf12.block _ HKX11.out.lt (fun e => by have e : w8.heap.size = m := e; omega)))
                     have hso1 : St.sold l1 kx = (so + a.n) := (hPu kx).trans (if_pos rfl)
                     have HSO1 := Lib.hid hso1
                     clear v2 v6 va vb vc hA12 hPu hf12 hso1
                     have z2 : w12.cell? ⟨W.heap.size, 2, none⟩ = some (.int .i64 a.n) := HKA12.out.cell 2
                     have z6 : w12.cell? ⟨W.heap.size, 6, none⟩ = some (.int .u8 a.cls) := HKA12.out.cell 6
                     have za : w12.cell? ⟨w8.heap.size, 0, none⟩ = some (.string kx.car) := HKX12.out.cell 0
                     have zb : w12.cell? ⟨w8.heap.size, 1, none⟩ = some (.int .i64 kx.num) := HKX12.out.cell 1
                     have zc : w12.cell? ⟨w8.heap.size, 2, none⟩ = some (.int .i64 kx.day) := HKX12.out.cell 2))
                have HS : Hid (∀ w', Rw.Blk w' W.heap.size 36 (St.acs a) → Rw.Blk w' w8.heap.size 34 [.string kx.car, .int .i64 kx.num, .int .i64 kx.day] → w'.cell? ⟨W.heap.size, 2, none⟩ = some (.int .i64 a.n) ∧ w'.cell? ⟨W.heap.size, 6, none⟩ = some (.int .u8 a.cls) ∧ w'.cell? ⟨w8.heap.size, 0, none⟩ = some (.string kx.car) ∧ w'.cell? ⟨w8.heap.size, 1, none⟩ = some (.int .i64 kx.num) ∧ w'.cell? ⟨w8.heap.size, 2, none⟩ = some (.int .i64 kx.day)) := fun w' k1 k2 => ⟨k1.cell 2, k1.cell 6, k2.cell 0, k2.cell 1, k2.cell 2⟩
                have hE13 : St.sellE rs' l0 kx pt = 0 := St.sell1 (by omega) (by omega) hse (by rw [HSO0.out]; omega)
                have hA13 : St.sellA rs' l0 kx pt = so + pt := by rw [St.sellA0 hE13, HSO0.out]
                have HSe13 := Lib.hid (fun w (hb : Below w12.heap.size w12 w) => sell_any Bt p2 t m2 rs' l0 kx pt w (HC12.out.kept hb) HOkx.out (by omega) (by omega))
                rw [hcl, hE13, hA13] at HSe13
                have hwr : IntKind.i64.wrap (a.n - pt) = a.n - pt := IntWalk.i64_in _ (by omega)
                clear hE13 hA13 z2 z6 za zb zc
                go_region_held3 (fun w' => w'.cell? ⟨W.heap.size, 2, none⟩ = some (.int .i64 a.n) ∧ w'.cell? ⟨W.heap.size, 6, none⟩ = some (.int .u8 a.cls) ∧ w'.cell? ⟨w8.heap.size, 0, none⟩ = some (.string kx.car) ∧ w'.cell? ⟨w8.heap.size, 1, none⟩ = some (.int .i64 kx.num) ∧ w'.cell? ⟨w8.heap.size, 2, none⟩ = some (.int .i64 kx.day)) (first | exact HS.out _ HKA12.out HKX12.out | exact HS.out _ (HKA12.out.below' (Below.refl _ _).drew) (HKX12.out.below' (Below.refl _ _).drew) | exact HS.out _ HKA13.out HKX13.out | exact HS.out _ HKA14.out HKX14.out | exact HS.out _ HKA15.out HKX15.out | exact HS.out _ HKA18.out HKX18.out) (first
                  | (have hgd := HSo15
                     go_at_call 18
                     refine (HSo15.out _ (Below.refl _ _)).mono ?_
                     rintro e w18 ⟨rfl, hb18⟩
                     have HB18 := Lib.hid (HB15.out.trans (hb18.mono HB15.out.size))
                     have HKA18 := Lib.hid (HKA15.out.below' hb18)
                     have HKX18 := Lib.hid (HKX15.out.below' hb18)
                     have HA18 := Lib.hid (HA15.out.kept hb18)
                     clear hb18)
                  | (go_at_call 18
                     refine (HSo14.out _ (Below.refl _ _)).mono ?_
                     rintro e w15 ⟨rfl, hb15⟩
                     have HB15 := Lib.hid (HB14.out.trans (hb15.mono HB14.out.size))
                     have HKA15 := Lib.hid (HKA14.out.below' hb15)
                     have HKX15 := Lib.hid (HKX14.out.below' hb15)
                     have HA15 := Lib.hid (HA14.out.kept hb15)
                     have HSo15 := Lib.hid (fun w (hb : Below w15.heap.size w15 w) => ssold_any Bt p t m rs' l1 kx w (HA15.out.kept hb) HOkx.out)
                     rw [hcl, HSO1.out] at HSo15
                     clear hb15)
                  | (have hgd := HSe14
                     go_at_call 19
                     refine (HSe14.out _ (Below.refl _ _)).mono ?_
                     rintro e w14 ⟨rfl, l3, hC14, hPu, hf14⟩
                     have HC14 := Lib.hid hC14
                     have hmx14 : m < wx.heap.size := HAx.out.map.lt
                     have hpx14 : p < wx.heap.size := HAx.out.blk.lt
                     have HA14 := Lib.hid ((HA13.out.kept (Below.refl _ _)).fr hf14 (fun k hk => by have : k = m2 := hk; rw [this]; exact hC14.lom) (fun e => by have e : p = m2 := e; omega) (fun e => by have e : m = m2 := e; omega))
                     have HB14 := Lib.hid ((HB13.out).trans (hf14.below (B := W.heap.size) (HB13.out).size (fun k hk => by have : k = m2 := hk; omega)))
                     have HKA14 := Lib.hid ((HKA13.out.below' (Below.refl _ _)).kept (hf14.block _ (HKA13.out.below' (Below.refl _ _)).lt (fun e => by have e : W.heap.size = m2 := e; omega)))
                     have HKX14 := Lib.hid ((HKX13.out.below' (Below.refl _ _)).kept (hf14.block _ (HKX13.out.below' (Below.refl _ _)).lt (fun e => by have e : w8.heap.size = m2 := e; omega)))
                     have hsn14 : St.sold l3 kx = so + a.n := (hPu kx).trans (if_pos rfl)
                     have HSo14 := Lib.hid (fun w (hb : Below w14.heap.size w14 w) => ssold_any Bt p2 t m2 rs' l3 kx w (HC14.out.kept hb) HOkx.out)
                     rw [hcl, hsn14] at HSo14
                     clear hC14 hPu hf14)
                  | (go_at_call 19
                     refine (HSe13.out _ (Below.refl _ _).drew).mono ?_
                     rintro e w13 ⟨rfl, l2, hC13, hPu, hf13⟩
                     have HC13 := Lib.hid hC13
                     have hmx13 : m < wx.heap.size := HAx.out.map.lt
                     have hpx13 : p < wx.heap.size := HAx.out.blk.lt
                     have HA13 := Lib.hid ((HA12.out.kept (Below.refl _ _).drew).fr hf13 (fun k hk => by have : k = m2 := hk; rw [this]; exact hC13.lom) (fun e => by have e : p = m2 := e; omega) (fun e => by have e : m = m2 := e; omega))
                     have HB13 := Lib.hid ((HB12.out.drew).trans (hf13.below (B := W.heap.size) (HB12.out.drew).size (fun k hk => by have : k = m2 := hk; omega)))
                     have HKA13 := Lib.hid ((HKA12.out.below' (Below.refl _ _).drew).kept (hf13.block _ (HKA12.out.below' (Below.refl _ _).drew).lt (fun e => by have e : W.heap.size = m2 := e; omega)))
                     have HKX13 := Lib.hid ((HKX12.out.below' (Below.refl _ _).drew).kept (hf13.block _ (HKX12.out.below' (Below.refl _ _).drew).lt (fun e => by have e : w8.heap.size = m2 := e; omega)))
                     have hsn13 : St.sold l2 kx = so + pt := (hPu kx).trans (if_pos rfl)
                     have hE14 : St.sellE rs' l2 kx (a.n - pt) = 0 := St.sell1 (by omega) (by omega) hse (by rw [hsn13]; omega)
                     have hA14 : St.sellA rs' l2 kx (a.n - pt) = so + a.n := by rw [St.sellA0 hE14, hsn13]; omega
                     have HSe14 := Lib.hid (fun w (hb : Below w13.heap.size w13 w) => sell_any Bt p2 t m2 rs' l2 kx (a.n - pt) w (HC13.out.kept hb) HOkx.out (by omega) (by omega))
                     rw [hcl, hE14, hA14] at HSe14
                     clear hE14 hA14
                     clear hC13 hPu hf13))
                have HCE : Hid (St.cancelE rs' l1 kx a.n = 0) := St.cancel1 hn0 hn1 hse (by rw [HSO1.out]; omega)
                have HCA : Hid (St.cancelA rs' l1 kx a.n = so) := show _ = _ by rw [St.cancelA0 HCE.out, HSO1.out]; omega
                have HCa := Lib.hid (cancel_any Bt p t m rs' l1 kx a.n w18 HA18.out HOkx.out HOkA.out.n0 HOkA.out.n1)
                rw [hcl, HCE.out, HCA.out] at HCa
                have z2 : w18.cell? ⟨W.heap.size, 2, none⟩ = some (.int .i64 a.n) := HKA18.out.cell 2
                have z6 : w18.cell? ⟨W.heap.size, 6, none⟩ = some (.int .u8 a.cls) := HKA18.out.cell 6
                have za : w18.cell? ⟨w8.heap.size, 0, none⟩ = some (.string kx.car) := HKX18.out.cell 0
                have zb : w18.cell? ⟨w8.heap.size, 1, none⟩ = some (.int .i64 kx.num) := HKX18.out.cell 1
                have zc : w18.cell? ⟨w8.heap.size, 2, none⟩ = some (.int .i64 kx.day) := HKX18.out.cell 2
                go_wp2_with (first
                  | (have hgd := HSO4
                     go_at_call 18
                     refine HSf.out.mono ?_
                     rintro e w17 ⟨rfl, hb17⟩
                     have HB17 := Lib.hid (HB16.out.trans (hb17.mono HB16.out.size)))
                  | (go_at_call 20
                     refine HCa.out.mono ?_
                     rintro e w16 ⟨rfl, l4, hA16, hPu, hf16⟩
                     have HA16 := Lib.hid hA16
                     have hmx2 : m < wx.heap.size := HAx.out.map.lt
                     have HB16 := Lib.hid (HB18.out.trans (hf16.below (B := W.heap.size) HB18.out.size (fun k hk => by have : k = m := hk; omega)))
                     have HKA16 := Lib.hid (HKA18.out.kept (hf16.block _ HKA18.out.lt (fun e => by have e : W.heap.size = m := e; omega)))
                     have HKX16 := Lib.hid (HKX18.out.kept (hf16.block _ HKX18.out.lt (fun e => by have e : w8.heap.size = m := e; omega)))
                     have hso4 : St.sold l4 kx = so := (hPu kx).trans (if_pos rfl)
                     have HSO4 := Lib.hid hso4
                     have HSf := Lib.hid (ssold_any Bt p t m rs' l4 kx w16 HA16.out HOkx.out)
                     rw [hcl, hso4] at HSf
                     clear z2 z6 za zb zc hA16 hPu hf16 hso4
                     have y2 : w16.cell? ⟨W.heap.size, 2, none⟩ = some (.int .i64 a.n) := HKA16.out.cell 2
                     have y6 : w16.cell? ⟨W.heap.size, 6, none⟩ = some (.int .u8 a.cls) := HKA16.out.cell 6
                     have ya : w16.cell? ⟨w8.heap.size, 0, none⟩ = some (.string kx.car) := HKX16.out.cell 0
                     have yb : w16.cell? ⟨w8.heap.size, 1, none⟩ = some (.int .i64 kx.num) := HKX16.out.cell 1
                     have yc : w16.cell? ⟨w8.heap.size, 2, none⟩ = some (.int .i64 kx.day) := HKX16.out.cell 2))
                go_ret
                exact ⟨rfl, HB17.out⟩
              · have g2 : decide (pt < a.n) = false := by simp; omega
                go_wp2_with (first
                  | (go_at_call 17
                     refine (HLg.out _ HBx.out).mono ?_
                     rintro e w8 ⟨rfl, hb8⟩
                     have hs8 := hb8.size
                     obtain ⟨w9, ew9⟩ : ∃ y, y = w8.alloc (.cells #[.string kx.car, .int .i64 kx.num, .int .i64 kx.day] 34) := ⟨_, rfl⟩
                     have hb9 : Below w8.heap.size w8 w9 := by rw [ew9]; exact (Below.refl _ _).alloc (Nat.le_refl _) _
                     have hz9 : w8.heap.size < w9.heap.size := by rw [ew9]; simp
                     have hb89 := hb8.trans (hb9.mono hs8)
                     have HKX9 : Hid (Rw.Blk w9 w8.heap.size 34 [.string kx.car, .int .i64 kx.num, .int .i64 kx.day]) := by rw [ew9]; exact heap_alloc_new w8 _
                     have HKA9 := Lib.hid (HKAx.out.below' hb89)
                     have HA9 := Lib.hid (HAx.out.kept hb89)
                     have HB9 := Lib.hid (HBx.out.trans (hb89.mono hbx))
                     have HS9 := Lib.hid (ssold_any Bt p t m rs' l0 kx w9 HA9.out HOkx.out)
                     rw [hcl, HSO0.out] at HS9
                     have u2 : w9.cell? ⟨W.heap.size, 2, none⟩ = some (.int .i64 a.n) := HKA9.out.cell 2
                     have u6 : w9.cell? ⟨W.heap.size, 6, none⟩ = some (.int .u8 a.cls) := HKA9.out.cell 6
                     have ua : w9.cell? ⟨w8.heap.size, 0, none⟩ = some (.string kx.car) := HKX9.out.cell 0
                     have ub : w9.cell? ⟨w8.heap.size, 1, none⟩ = some (.int .i64 kx.num) := HKX9.out.cell 1
                     have uc : w9.cell? ⟨w8.heap.size, 2, none⟩ = some (.int .i64 kx.day) := HKX9.out.cell 2
                     rw [ew9] at HS9 HB9 HA9 HKA9 HKX9 hz9 u2 u6 ua ub uc
                     clear ew9 hb9 hb8 hb89 q0 q1 q2 q3 q4 q5 q6)
                  | (have hgd := HSO4
                     go_at_call 18
                     refine HSf.out.mono ?_
                     rintro e w17 ⟨rfl, hb17⟩
                     have HB17 := Lib.hid (HB16.out.trans (hb17.mono HB16.out.size)))
                  | (go_at_call 18
                     refine HS9.out.mono ?_
                     rintro e w10 ⟨rfl, hb10⟩
                     have HB10 := Lib.hid (HB9.out.trans (hb10.mono HB9.out.size))
                     have HKA10 := Lib.hid (HKA9.out.below' hb10)
                     have HKX10 := Lib.hid (HKX9.out.below' hb10)
                     have HA10 := Lib.hid (HA9.out.kept hb10)
                     have hs10 : w8.heap.size < w10.heap.size := HKX10.out.lt
                     have HCo := Lib.hid (copy_any Bt p t m rs' l0 w10 HA10.out)
                     clear u2 u6 ua ub uc hb10)
                  | (go_at_call 23
                     refine HCo.out.mono ?_
                     rintro e w11 ⟨p2, m2, rfl, hC11, hp2, hm2, hb11⟩
                     have HC11 := Lib.hid hC11
                     have HA11 := Lib.hid (HA10.out.kept hb11)
                     have HB11 := Lib.hid (HB10.out.trans (hb11.mono HB10.out.size))
                     have HKA11 := Lib.hid (HKA10.out.below' hb11)
                     have HKX11 := Lib.hid (HKX10.out.below' hb11)
                     have HSe := Lib.hid (sell_any Bt p t m rs' l0 kx a.n w11 HA11.out HOkx.out HOkA.out.n0 HOkA.out.n1)
                     rw [hcl, HCD.out, HAF.out] at HSe
                     clear hC11 hb11
                     have v2 : w11.cell? ⟨W.heap.size, 2, none⟩ = some (.int .i64 a.n) := HKA11.out.cell 2
                     have v6 : w11.cell? ⟨W.heap.size, 6, none⟩ = some (.int .u8 a.cls) := HKA11.out.cell 6
                     have va : w11.cell? ⟨w8.heap.size, 0, none⟩ = some (.string kx.car) := HKX11.out.cell 0
                     have vb : w11.cell? ⟨w8.heap.size, 1, none⟩ = some (.int .i64 kx.num) := HKX11.out.cell 1
                     have vc : w11.cell? ⟨w8.heap.size, 2, none⟩ = some (.int .i64 kx.day) := HKX11.out.cell 2)
                  | (go_at_call 19
                     refine HSe.out.mono ?_
                     rintro e w12 ⟨rfl, l1, hA12, hPu, hf12⟩
                     have HA12 := Lib.hid hA12
                     have hmx : m < wx.heap.size := HAx.out.map.lt
                     have HC12 := Lib.hid (HC11.out.fr hf12 (fun k hk => by have : k = m := hk; rw [this]; exact hA12.lom) (fun e => by have e : p2 = m := e; omega) (fun e => by have e : m2 = m := e; omega))
                     have HB12 := Lib.hid (HB11.out.trans (hf12.below (B := W.heap.size) HB11.out.size (fun k hk => by have : k = m := hk; omega)))
                     have HKA12 := Lib.hid (HKA11.out.kept (hf12.block _ HKA11.out.lt (fun e => by have e : W.heap.size = m := e; omega)))
                     have HKX12 := Lib.hid (HKX11.out.kept (hf12.block _ HKX11.out.lt (fun e => by have e : w8.heap.size = m := e; omega)))
                     have hso1 : St.sold l1 kx = (so + a.n) := (hPu kx).trans (if_pos rfl)
                     have HSO1 := Lib.hid hso1
                     clear v2 v6 va vb vc hA12 hPu hf12 hso1
                     have z2 : w12.cell? ⟨W.heap.size, 2, none⟩ = some (.int .i64 a.n) := HKA12.out.cell 2
                     have z6 : w12.cell? ⟨W.heap.size, 6, none⟩ = some (.int .u8 a.cls) := HKA12.out.cell 6
                     have za : w12.cell? ⟨w8.heap.size, 0, none⟩ = some (.string kx.car) := HKX12.out.cell 0
                     have zb : w12.cell? ⟨w8.heap.size, 1, none⟩ = some (.int .i64 kx.num) := HKX12.out.cell 1
                     have zc : w12.cell? ⟨w8.heap.size, 2, none⟩ = some (.int .i64 kx.day) := HKX12.out.cell 2
                     have HCE : Hid (St.cancelE rs' l1 kx a.n = 0) := St.cancel1 hn0 hn1 hse (by rw [HSO1.out]; omega)
                     have HCA : Hid (St.cancelA rs' l1 kx a.n = so) := show _ = _ by rw [St.cancelA0 HCE.out, HSO1.out]; omega
                     have HCa := Lib.hid (cancel_any Bt p t m rs' l1 kx a.n w12 HA12.out HOkx.out HOkA.out.n0 HOkA.out.n1)
                     rw [hcl, HCE.out, HCA.out] at HCa)
                  | (go_at_call 20
                     refine HCa.out.mono ?_
                     rintro e w16 ⟨rfl, l4, hA16, hPu, hf16⟩
                     have HA16 := Lib.hid hA16
                     have hmx2 : m < wx.heap.size := HAx.out.map.lt
                     have HB16 := Lib.hid (HB12.out.trans (hf16.below (B := W.heap.size) HB12.out.size (fun k hk => by have : k = m := hk; omega)))
                     have HKA16 := Lib.hid (HKA12.out.kept (hf16.block _ HKA12.out.lt (fun e => by have e : W.heap.size = m := e; omega)))
                     have HKX16 := Lib.hid (HKX12.out.kept (hf16.block _ HKX12.out.lt (fun e => by have e : w8.heap.size = m := e; omega)))
                     have hso4 : St.sold l4 kx = so := (hPu kx).trans (if_pos rfl)
                     have HSO4 := Lib.hid hso4
                     have HSf := Lib.hid (ssold_any Bt p t m rs' l4 kx w16 HA16.out HOkx.out)
                     rw [hcl, hso4] at HSf
                     clear z2 z6 za zb zc hA16 hPu hf16 hso4
                     have y2 : w16.cell? ⟨W.heap.size, 2, none⟩ = some (.int .i64 a.n) := HKA16.out.cell 2
                     have y6 : w16.cell? ⟨W.heap.size, 6, none⟩ = some (.int .u8 a.cls) := HKA16.out.cell 6
                     have ya : w16.cell? ⟨w8.heap.size, 0, none⟩ = some (.string kx.car) := HKX16.out.cell 0
                     have yb : w16.cell? ⟨w8.heap.size, 1, none⟩ = some (.int .i64 kx.num) := HKX16.out.cell 1
                     have yc : w16.cell? ⟨w8.heap.size, 2, none⟩ = some (.int .i64 kx.day) := HKX16.out.cell 2))
                go_ret
                exact ⟨rfl, HB17.out⟩
            · have g1 : decide (1 ≤ pt) = false := by simp; omega
              go_wp2_with (first
                | (go_at_call 17
                   refine (HLg.out _ HBx.out).mono ?_
                   rintro e w8 ⟨rfl, hb8⟩
                   have hs8 := hb8.size
                   obtain ⟨w9, ew9⟩ : ∃ y, y = w8.alloc (.cells #[.string kx.car, .int .i64 kx.num, .int .i64 kx.day] 34) := ⟨_, rfl⟩
                   have hb9 : Below w8.heap.size w8 w9 := by rw [ew9]; exact (Below.refl _ _).alloc (Nat.le_refl _) _
                   have hz9 : w8.heap.size < w9.heap.size := by rw [ew9]; simp
                   have hb89 := hb8.trans (hb9.mono hs8)
                   have HKX9 : Hid (Rw.Blk w9 w8.heap.size 34 [.string kx.car, .int .i64 kx.num, .int .i64 kx.day]) := by rw [ew9]; exact heap_alloc_new w8 _
                   have HKA9 := Lib.hid (HKAx.out.below' hb89)
                   have HA9 := Lib.hid (HAx.out.kept hb89)
                   have HB9 := Lib.hid (HBx.out.trans (hb89.mono hbx))
                   have HS9 := Lib.hid (ssold_any Bt p t m rs' l0 kx w9 HA9.out HOkx.out)
                   rw [hcl, HSO0.out] at HS9
                   have u2 : w9.cell? ⟨W.heap.size, 2, none⟩ = some (.int .i64 a.n) := HKA9.out.cell 2
                   have u6 : w9.cell? ⟨W.heap.size, 6, none⟩ = some (.int .u8 a.cls) := HKA9.out.cell 6
                   have ua : w9.cell? ⟨w8.heap.size, 0, none⟩ = some (.string kx.car) := HKX9.out.cell 0
                   have ub : w9.cell? ⟨w8.heap.size, 1, none⟩ = some (.int .i64 kx.num) := HKX9.out.cell 1
                   have uc : w9.cell? ⟨w8.heap.size, 2, none⟩ = some (.int .i64 kx.day) := HKX9.out.cell 2
                   rw [ew9] at HS9 HB9 HA9 HKA9 HKX9 hz9 u2 u6 ua ub uc
                   clear ew9 hb9 hb8 hb89 q0 q1 q2 q3 q4 q5 q6)
                | (have hgd := HSO4
                   go_at_call 18
                   refine HSf.out.mono ?_
                   rintro e w17 ⟨rfl, hb17⟩
                   have HB17 := Lib.hid (HB16.out.trans (hb17.mono HB16.out.size)))
                | (go_at_call 18
                   refine HS9.out.mono ?_
                   rintro e w10 ⟨rfl, hb10⟩
                   have HB10 := Lib.hid (HB9.out.trans (hb10.mono HB9.out.size))
                   have HKA10 := Lib.hid (HKA9.out.below' hb10)
                   have HKX10 := Lib.hid (HKX9.out.below' hb10)
                   have HA10 := Lib.hid (HA9.out.kept hb10)
                   have hs10 : w8.heap.size < w10.heap.size := HKX10.out.lt
                   have HCo := Lib.hid (copy_any Bt p t m rs' l0 w10 HA10.out)
                   clear u2 u6 ua ub uc hb10)
                | (go_at_call 23
                   refine HCo.out.mono ?_
                   rintro e w11 ⟨p2, m2, rfl, hC11, hp2, hm2, hb11⟩
                   have HC11 := Lib.hid hC11
                   have HA11 := Lib.hid (HA10.out.kept hb11)
                   have HB11 := Lib.hid (HB10.out.trans (hb11.mono HB10.out.size))
                   have HKA11 := Lib.hid (HKA10.out.below' hb11)
                   have HKX11 := Lib.hid (HKX10.out.below' hb11)
                   have HSe := Lib.hid (sell_any Bt p t m rs' l0 kx a.n w11 HA11.out HOkx.out HOkA.out.n0 HOkA.out.n1)
                   rw [hcl, HCD.out, HAF.out] at HSe
                   clear hC11 hb11
                   have v2 : w11.cell? ⟨W.heap.size, 2, none⟩ = some (.int .i64 a.n) := HKA11.out.cell 2
                   have v6 : w11.cell? ⟨W.heap.size, 6, none⟩ = some (.int .u8 a.cls) := HKA11.out.cell 6
                   have va : w11.cell? ⟨w8.heap.size, 0, none⟩ = some (.string kx.car) := HKX11.out.cell 0
                   have vb : w11.cell? ⟨w8.heap.size, 1, none⟩ = some (.int .i64 kx.num) := HKX11.out.cell 1
                   have vc : w11.cell? ⟨w8.heap.size, 2, none⟩ = some (.int .i64 kx.day) := HKX11.out.cell 2)
                | (go_at_call 19
                   refine HSe.out.mono ?_
                   rintro e w12 ⟨rfl, l1, hA12, hPu, hf12⟩
                   have HA12 := Lib.hid hA12
                   have hmx : m < wx.heap.size := HAx.out.map.lt
                   have HC12 := Lib.hid (HC11.out.fr hf12 (fun k hk => by have : k = m := hk; rw [this]; exact hA12.lom) (fun e => by have e : p2 = m := e; omega) (fun e => by have e : m2 = m := e; omega))
                   have HB12 := Lib.hid (HB11.out.trans (hf12.below (B := W.heap.size) HB11.out.size (fun k hk => by have : k = m := hk; omega)))
                   have HKA12 := Lib.hid (HKA11.out.kept (hf12.block _ HKA11.out.lt (fun e => by have e : W.heap.size = m := e; omega)))
                   have HKX12 := Lib.hid (HKX11.out.kept (hf12.block _ HKX11.out.lt (fun e => by have e : w8.heap.size = m := e; omega)))
                   have hso1 : St.sold l1 kx = (so + a.n) := (hPu kx).trans (if_pos rfl)
                   have HSO1 := Lib.hid hso1
                   clear v2 v6 va vb vc hA12 hPu hf12 hso1
                   have z2 : w12.cell? ⟨W.heap.size, 2, none⟩ = some (.int .i64 a.n) := HKA12.out.cell 2
                   have z6 : w12.cell? ⟨W.heap.size, 6, none⟩ = some (.int .u8 a.cls) := HKA12.out.cell 6
                   have za : w12.cell? ⟨w8.heap.size, 0, none⟩ = some (.string kx.car) := HKX12.out.cell 0
                   have zb : w12.cell? ⟨w8.heap.size, 1, none⟩ = some (.int .i64 kx.num) := HKX12.out.cell 1
                   have zc : w12.cell? ⟨w8.heap.size, 2, none⟩ = some (.int .i64 kx.day) := HKX12.out.cell 2
                   have HCE : Hid (St.cancelE rs' l1 kx a.n = 0) := St.cancel1 hn0 hn1 hse (by rw [HSO1.out]; omega)
                   have HCA : Hid (St.cancelA rs' l1 kx a.n = so) := show _ = _ by rw [St.cancelA0 HCE.out, HSO1.out]; omega
                   have HCa := Lib.hid (cancel_any Bt p t m rs' l1 kx a.n w12 HA12.out HOkx.out HOkA.out.n0 HOkA.out.n1)
                   rw [hcl, HCE.out, HCA.out] at HCa)
                | (go_at_call 20
                   refine HCa.out.mono ?_
                   rintro e w16 ⟨rfl, l4, hA16, hPu, hf16⟩
                   have HA16 := Lib.hid hA16
                   have hmx2 : m < wx.heap.size := HAx.out.map.lt
                   have HB16 := Lib.hid (HB12.out.trans (hf16.below (B := W.heap.size) HB12.out.size (fun k hk => by have : k = m := hk; omega)))
                   have HKA16 := Lib.hid (HKA12.out.kept (hf16.block _ HKA12.out.lt (fun e => by have e : W.heap.size = m := e; omega)))
                   have HKX16 := Lib.hid (HKX12.out.kept (hf16.block _ HKX12.out.lt (fun e => by have e : w8.heap.size = m := e; omega)))
                   have hso4 : St.sold l4 kx = so := (hPu kx).trans (if_pos rfl)
                   have HSO4 := Lib.hid hso4
                   have HSf := Lib.hid (ssold_any Bt p t m rs' l4 kx w16 HA16.out HOkx.out)
                   rw [hcl, hso4] at HSf
                   clear z2 z6 za zb zc hA16 hPu hf16 hso4
                   have y2 : w16.cell? ⟨W.heap.size, 2, none⟩ = some (.int .i64 a.n) := HKA16.out.cell 2
                   have y6 : w16.cell? ⟨W.heap.size, 6, none⟩ = some (.int .u8 a.cls) := HKA16.out.cell 6
                   have ya : w16.cell? ⟨w8.heap.size, 0, none⟩ = some (.string kx.car) := HKX16.out.cell 0
                   have yb : w16.cell? ⟨w8.heap.size, 1, none⟩ = some (.int .i64 kx.num) := HKX16.out.cell 1
                   have yc : w16.cell? ⟨w8.heap.size, 2, none⟩ = some (.int .i64 kx.day) := HKX16.out.cell 2))
              go_ret
              exact ⟨rfl, HB17.out⟩
          · rw [if_neg hcd0] at haf2
            have g0 : (cd != 0) = true := by simp [hcd0]
            clear hpar hpa0 hcd0
            subst haf2
            go_wp2_with (first
              | (go_at_call 17
                 refine (HLg.out _ HBx.out).mono ?_
                 rintro e w8 ⟨rfl, hb8⟩
                 have hs8 := hb8.size
                 obtain ⟨w9, ew9⟩ : ∃ y, y = w8.alloc (.cells #[.string kx.car, .int .i64 kx.num, .int .i64 kx.day] 34) := ⟨_, rfl⟩
                 have hb9 : Below w8.heap.size w8 w9 := by rw [ew9]; exact (Below.refl _ _).alloc (Nat.le_refl _) _
                 have hz9 : w8.heap.size < w9.heap.size := by rw [ew9]; simp
                 have hb89 := hb8.trans (hb9.mono hs8)
                 have HKX9 : Hid (Rw.Blk w9 w8.heap.size 34 [.string kx.car, .int .i64 kx.num, .int .i64 kx.day]) := by rw [ew9]; exact heap_alloc_new w8 _
                 have HKA9 := Lib.hid (HKAx.out.below' hb89)
                 have HA9 := Lib.hid (HAx.out.kept hb89)
                 have HB9 := Lib.hid (HBx.out.trans (hb89.mono hbx))
                 have HS9 := Lib.hid (ssold_any Bt p t m rs' l0 kx w9 HA9.out HOkx.out)
                 rw [hcl, HSO0.out] at HS9
                 have u2 : w9.cell? ⟨W.heap.size, 2, none⟩ = some (.int .i64 a.n) := HKA9.out.cell 2
                 have u6 : w9.cell? ⟨W.heap.size, 6, none⟩ = some (.int .u8 a.cls) := HKA9.out.cell 6
                 have ua : w9.cell? ⟨w8.heap.size, 0, none⟩ = some (.string kx.car) := HKX9.out.cell 0
                 have ub : w9.cell? ⟨w8.heap.size, 1, none⟩ = some (.int .i64 kx.num) := HKX9.out.cell 1
                 have uc : w9.cell? ⟨w8.heap.size, 2, none⟩ = some (.int .i64 kx.day) := HKX9.out.cell 2
                 rw [ew9] at HS9 HB9 HA9 HKA9 HKX9 hz9 u2 u6 ua ub uc
                 clear ew9 hb9 hb8 hb89 q0 q1 q2 q3 q4 q5 q6)
              | (have hgd := HSO1
                 go_at_call 18
                 refine HSf.out.mono ?_
                 rintro e w17 ⟨rfl, hb17⟩
                 have HB17 := Lib.hid (HB12.out.trans (hb17.mono HB12.out.size)))
              | (go_at_call 18
                 refine HS9.out.mono ?_
                 rintro e w10 ⟨rfl, hb10⟩
                 have HB10 := Lib.hid (HB9.out.trans (hb10.mono HB9.out.size))
                 have HKA10 := Lib.hid (HKA9.out.below' hb10)
                 have HKX10 := Lib.hid (HKX9.out.below' hb10)
                 have HA10 := Lib.hid (HA9.out.kept hb10)
                 have hs10 : w8.heap.size < w10.heap.size := HKX10.out.lt
                 have HCo := Lib.hid (copy_any Bt p t m rs' l0 w10 HA10.out)
                 clear u2 u6 ua ub uc hb10)
              | (go_at_call 23
                 refine HCo.out.mono ?_
                 rintro e w11 ⟨p2, m2, rfl, hC11, hp2, hm2, hb11⟩
                 have HC11 := Lib.hid hC11
                 have HA11 := Lib.hid (HA10.out.kept hb11)
                 have HB11 := Lib.hid (HB10.out.trans (hb11.mono HB10.out.size))
                 have HKA11 := Lib.hid (HKA10.out.below' hb11)
                 have HKX11 := Lib.hid (HKX10.out.below' hb11)
                 have HSe := Lib.hid (sell_any Bt p t m rs' l0 kx a.n w11 HA11.out HOkx.out HOkA.out.n0 HOkA.out.n1)
                 rw [hcl, HCD.out, HAF.out] at HSe
                 clear hC11 hb11
                 have v2 : w11.cell? ⟨W.heap.size, 2, none⟩ = some (.int .i64 a.n) := HKA11.out.cell 2
                 have v6 : w11.cell? ⟨W.heap.size, 6, none⟩ = some (.int .u8 a.cls) := HKA11.out.cell 6
                 have va : w11.cell? ⟨w8.heap.size, 0, none⟩ = some (.string kx.car) := HKX11.out.cell 0
                 have vb : w11.cell? ⟨w8.heap.size, 1, none⟩ = some (.int .i64 kx.num) := HKX11.out.cell 1
                 have vc : w11.cell? ⟨w8.heap.size, 2, none⟩ = some (.int .i64 kx.day) := HKX11.out.cell 2)
              | (go_at_call 19
                 refine HSe.out.mono ?_
                 rintro e w12 ⟨rfl, l1, hA12, hPu, hf12⟩
                 have HA12 := Lib.hid hA12
                 have hmx : m < wx.heap.size := HAx.out.map.lt
                 have HC12 := Lib.hid (HC11.out.fr hf12 (fun k hk => by have : k = m := hk; rw [this]; exact hA12.lom) (fun e => by have e : p2 = m := e; omega) (fun e => by have e : m2 = m := e; omega))
                 have HB12 := Lib.hid (HB11.out.trans (hf12.below (B := W.heap.size) HB11.out.size (fun k hk => by have : k = m := hk; omega)))
                 have HKA12 := Lib.hid (HKA11.out.kept (hf12.block _ HKA11.out.lt (fun e => by have e : W.heap.size = m := e; omega)))
                 have HKX12 := Lib.hid (HKX11.out.kept (hf12.block _ HKX11.out.lt (fun e => by have e : w8.heap.size = m := e; omega)))
                 have hso1 : St.sold l1 kx = af := (hPu kx).trans (if_pos rfl)
                 have HSO1 := Lib.hid hso1
                 clear v2 v6 va vb vc hA12 hPu hf12 hso1
                 have z2 : w12.cell? ⟨W.heap.size, 2, none⟩ = some (.int .i64 a.n) := HKA12.out.cell 2
                 have z6 : w12.cell? ⟨W.heap.size, 6, none⟩ = some (.int .u8 a.cls) := HKA12.out.cell 6
                 have za : w12.cell? ⟨w8.heap.size, 0, none⟩ = some (.string kx.car) := HKX12.out.cell 0
                 have zb : w12.cell? ⟨w8.heap.size, 1, none⟩ = some (.int .i64 kx.num) := HKX12.out.cell 1
                 have zc : w12.cell? ⟨w8.heap.size, 2, none⟩ = some (.int .i64 kx.day) := HKX12.out.cell 2
                 have HSf := Lib.hid (ssold_any Bt p t m rs' l1 kx w12 HA12.out HOkx.out)
                 rw [hcl, HSO1.out] at HSf))
            go_ret
            exact ⟨rfl, HB17.out⟩
  · have HBg : Hid (∀ w, Below W.heap.size W w → Calls Tryz.prog 9 #[.slice A rs.length cap] w fun e w' => e = .returned (.tuple #[.pointer none, .bool false]) ∧ Below w.heap.size w w') := fun w hb => by
      rcases Nat.lt_or_ge 64 rs.length with h | h
      · exact begun_many A rs.length cap w h hl
      · exact begun_bad A rs cap W.heap.size w (HF.out.below hb (Nat.le_refl _)) hb.size h (fun e => hgood ⟨h, e⟩)
    clear hgood
    rw [ew1] at HAw HB1
    unfold St.av
    unfold St.acs at HAw HB1
    go_enter Tryz.func6, Tryz.ntmps6
    go_wp2_with (first
      | (go_at_call 8; refine HAw.out.mono ?_; rintro e w2 ⟨rfl, hb2⟩; have HB2 := Lib.hid (HB1.out.trans (hb2.mono HB1.out.size)))
      | (go_at_call 9; refine (HBg.out _ HB2.out).mono ?_; rintro e w3 ⟨rfl, hb3⟩; have HB3 := Lib.hid (HB2.out.trans (hb3.mono HB2.out.size))))
    go_ret
    exact ⟨rfl, HB3.out⟩
end Go.Proofs.YtmcekicaigbccaaGreat
