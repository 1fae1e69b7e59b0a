/- StockNever's walk. -/
import Derived.Test.YtmcekicaigbccaaGreatStFrm
import Derived.Deep.RegionHeld3
namespace Go.Proofs.YtmcekicaigbccaaGreat
open Go.ChangeShapes Go.WideShapes Go.ChangeAt Go.RowKit
set_option linter.unusedVariables false

namespace St
theorem cancel_party {rs : List Fl.R} {l : List (K × Int)} {k : K} {n : Int} (h : cancelE rs l k n = 0) : 1 ≤ n ∧ n ≤ 9 := by
  unfold cancelE cancelE' at h
  split at h
  · rename_i hp
    simpa [party, Fl.inI] using hp
  · cases h
theorem acts_cells {w : World} {b o : Nat} {a : A} (h : w.rangeAt b o (acs a)) : w.cell? ⟨b, o, none⟩ = some (.int .i64 a.kind) ∧ w.cell? ⟨b, o + 1, none⟩ = some (.int .i64 a.fl) ∧ w.cell? ⟨b, o + 2, none⟩ = some (.int .i64 a.n) ∧ w.cell? ⟨b, o + 3, none⟩ = some (.string a.car) ∧ w.cell? ⟨b, o + 4, none⟩ = some (.int .i64 a.num) ∧ w.cell? ⟨b, o + 5, none⟩ = some (.int .i64 a.day) ∧ w.cell? ⟨b, o + 6, none⟩ = some (.int .u8 a.cls) :=
  ⟨h 0 _ rfl, h 1 _ rfl, h 2 _ rfl, h 3 _ rfl, h 4 _ rfl, h 5 _ rfl, h 6 _ rfl⟩
theorem kOf_cls {rs : List Fl.R} {a : A} : (kOf rs a).cls = a.cls := by
  unfold kOf; split <;> rfl
/-- The stock s, whatever is sold. -/
def Some (w : World) (Bt p t m : Nat) (rs : List Fl.R) : Prop := ∃ l, At w Bt p t m rs l
theorem sell_party {rs : List Fl.R} {l : List (K × Int)} {k : K} {n : Int} (h : sellE rs l k n = 0) : 1 ≤ n ∧ n ≤ 9 := by
  unfold sellE sellE' at h
  split at h
  · rename_i hp
    simpa [party, Fl.inI] using hp
  · cases h
theorem sell_bound {rs : List Fl.R} {l : List (K × Int)} {k : K} {n : Int} (h : 0 ≤ sold l k ∧ sold l k ≤ lvl rs k ∧ lvl rs k ≤ 400) : 0 ≤ sellA rs l k n ∧ sellA rs l k n ≤ lvl rs k := by
  unfold sellA
  split
  · rename_i h0
    obtain ⟨h1, h2⟩ := sell_party h0
    unfold sellE sellE' at h0
    split at h0
    · split at h0
      · split at h0
        · cases h0
        · omega
      · omega
    · cases h0
  · omega
theorem cancel_bound {rs : List Fl.R} {l : List (K × Int)} {k : K} {n : Int} (h : 0 ≤ sold l k ∧ sold l k ≤ lvl rs k ∧ lvl rs k ≤ 400) : 0 ≤ cancelA rs l k n ∧ cancelA rs l k n ≤ lvl rs k := by
  unfold cancelA
  split
  · rename_i h0
    obtain ⟨h1, h2⟩ := cancel_party h0
    unfold cancelE cancelE' at h0
    split at h0
    · split at h0
      · split at h0
        · cases h0
        · omega
      · omega
    · cases h0
  · omega
end St
set_option maxHeartbeats 4000000 in
set_option maxRecDepth 20000 in
theorem never_walk (W : World) (A : Option Addr) (rs : List Fl.R) (cap : Nat) (hF : Fl.Fls W W.heap.size A rs ∧ rs.length ≤ 9223372036854775807) (A1 : Option Addr) (sc : List St.A) (cap1 : Nat) (hS : Fm.Acts W W.heap.size A1 sc ∧ sc.length ≤ 9223372036854775807 ∧ ∀ a ∈ sc, St.OkA a) :
    Calls Tryz.prog 5 #[.slice A rs.length cap, .slice A1 sc.length cap1] W fun e w' => e = .returned (.bool true) ∧ Below W.heap.size W w' := by
  obtain ⟨hF, hl⟩ := hF
  obtain ⟨hS, hls, hoks⟩ := hS
  have HF := Lib.hid hF
  have HSc := Lib.hid hS
  have HOks := Lib.hid hoks
  have HAw := Lib.hid (awake_any W)
  clear hF hS hoks
  by_cases hgood : St.Good rs
  · have HBg := Lib.hid (fun w (hb : Below W.heap.size W w) => begun_ok A rs cap W.heap.size w (HF.out.below hb (Nat.le_refl _)) hb.size hgood)
    have hrl := hgood.1
    have HND := Lib.hid (St.newCode0 hgood.2).2
    clear hgood
    by_cases hlen : 200 < sc.length
    · have hd : decide (200 < (sc.length : Int)) = true := by simp; omega
      have hd2 : decide (200 < sc.length) = true := by simp; omega
      go_enter Tryz.func5, Tryz.ntmps5
      go_wp2_with (first
        | (go_at_call 8; refine HAw.out.mono ?_; rintro e w2 ⟨rfl, hb2⟩; have HB2 := Lib.hid hb2)
        | (go_at_call 9; refine (HBg.out _ HB2.out).mono ?_; rintro e w3 ⟨Bt, p, t, m, rs', rfl, hA, hpr, hpp, hmm, hb3⟩; have HB3 := Lib.hid (HB2.out.trans (hb3.mono HB2.out.size)); have HA3 := Lib.hid hA; have HPr := Lib.hid hpr; have hs23 := hb3.size; have hs2 := HB2.out.size; have hWm : W.heap.size ≤ m := Nat.le_trans hs2 hmm; clear hA hpr hb3))
      go_ret
      exact ⟨rfl, HB3.out⟩
    · have hd : decide (200 < (sc.length : Int)) = false := by simp; omega
      have hd2 : decide (200 < sc.length) = false := by simp; omega
      go_enter Tryz.func5, Tryz.ntmps5
      go_wp2_with (first
        | (go_at_call 8; refine HAw.out.mono ?_; rintro e w2 ⟨rfl, hb2⟩; have HB2 := Lib.hid hb2)
        | (go_at_call 9; refine (HBg.out _ HB2.out).mono ?_; rintro e w3 ⟨Bt, p, t, m, rs', rfl, hA, hpr, hpp, hmm, hb3⟩; have HB3 := Lib.hid (HB2.out.trans (hb3.mono HB2.out.size)); have HA3 := Lib.hid hA; have HPr := Lib.hid hpr; have hs23 := hb3.size; have hs2 := HB2.out.size; have hWm : W.heap.size ≤ m := Nat.le_trans hs2 hmm; clear hA hpr hb3))
      have HI : Hid (St.Some w3 Bt p t m rs') := ⟨[], HA3.out⟩
      have hln : sc.length ≤ 200 := by omega
      clear HA3 HB2 hb2 HAw HBg
      go_loopw [7] (fun i wr => ∃ k : Nat, k ≤ sc.length ∧ i = .int .i64 k ∧ Hid (St.Some wr Bt p t m rs') ∧ Hid (Below W.heap.size W wr)) (fun i _ => sc.length - (intOf i).toNat)
      case atStart => exact ⟨0, by omega, rfl, HI.out, HB3.out⟩
      case round =>
        obtain ⟨wx, ewx⟩ : ∃ x, x = wr := ⟨_, rfl⟩
        subst ewx
        obtain ⟨k, hk, rfl, HIx, HBx⟩ := hrel
        by_cases hlt : k < sc.length
        · obtain ⟨b, off, hA1, hbB, hrow⟩ := HSc.out (by omega)
          have HR : Hid (∀ w', Below W.heap.size W w' → w'.rangeAt b (off + k * 7) (St.acs sc[k])) := fun w' hb j v hv => (hb.cell (p := ⟨b, _, none⟩) hbB).trans (hrow k hlt j v hv)
          have HOk := Lib.hid (HOks.out _ (List.getElem_mem hlt))
          have hbx := HBx.out.size
          generalize sc[k] = x at *
          subst hA1
          clear hrow
          obtain ⟨l0, hA0⟩ := HIx.out
          have HAx := Lib.hid hA0
          have HLg := Lib.hid (fun w (hb : Below W.heap.size W w) => leg_any A rs cap W.heap.size x w (HF.out.below hb (Nat.le_refl _)) hb.size (by omega) HOk.out)
          have HOkK := Lib.hid (St.kOf_ok (rs := rs) HOk.out HF.out.wf)
          have hcl := St.kOf_cls (rs := rs) (a := x)
          obtain ⟨kk, hkk⟩ : ∃ kk, kk = St.kOf rs x := ⟨_, rfl⟩
          rw [← hkk] at HLg HOkK hcl
          have hbd := hA0.bound kk
          have HN0 := Lib.hid HOk.out.n0
          have HN1 := Lib.hid HOk.out.n1
          obtain ⟨so, hso⟩ : ∃ x, x = St.sold l0 kk := ⟨_, rfl⟩
          obtain ⟨lv, hlv⟩ : ∃ x, x = St.lvl rs' kk := ⟨_, rfl⟩
          have HSO : Hid (St.sold l0 kk = so) := hso.symm
          have HLV : Hid (St.lvl rs' kk = lv) := hlv.symm
          have HLV1 : Hid ((Fl.level (rs.map Fl.R.f) kk.car kk.num kk.day x.cls).1 = lv) := show _ = _ by
            rw [hlv, ← Fl.level_perm HPr.out HND.out, ← hcl]; rfl
          rw [← hso, ← hlv] at hbd
          obtain ⟨hb0, hb1, hb2⟩ := hbd
          have HSB := Lib.hid (fun n => St.sell_bound (hA0.bound kk) (n := n))
          have HCB := Lib.hid (fun n => St.cancel_bound (hA0.bound kk) (n := n))
          unfold St.av at HLg
          clear hA0 HOk hkk
          by_cases hkd : x.kind = 0
          · have hsb := HSB.out x.n
            obtain ⟨cd, hcd⟩ : ∃ y, y = St.sellE rs' l0 kk x.n := ⟨_, rfl⟩
            obtain ⟨af, haf⟩ : ∃ y, y = St.sellA rs' l0 kk x.n := ⟨_, rfl⟩
            have haf2 : af = if cd = 0 then so + x.n else so := by rw [haf, hcd, hso]; rfl
            have HCD : Hid (St.sellE rs' l0 kk x.n = cd) := hcd.symm
            have HAF : Hid (St.sellA rs' l0 kk x.n = af) := haf.symm
            have hpar : cd = 0 → 1 ≤ x.n ∧ x.n ≤ 9 := fun h => St.sell_party (hcd.symm.trans h)
            rw [← haf, ← hlv] at hsb
            clear HSB HCB
            obtain ⟨xk, xf, xn, xc, xm, xd, xl⟩ := x
            simp only at hkd HLg HR HN0 HN1 hcl HLV1 HCD HAF hpar haf2
            subst hkd
            by_cases hcd0 : cd = 0
            · obtain ⟨hn0, hn1⟩ := hpar hcd0
              rw [if_pos hcd0] at haf2
              subst hcd0
              subst haf2
              have g0 : min (max xn 0) 9 = xn := by omega
              have g4 : IntKind.i64.wrap (so + xn) = so + xn := IntWalk.i64_in _ (by omega)
              have g1 : decide (so + xn < 0) = false := by simp; omega
              have g2 : decide (lv < so + xn) = false := by simp; omega
              have g3 : IntKind.i64.wrap (lv - (so + xn)) = lv - (so + xn) := IntWalk.i64_in _ (by omega)
              clear hso hlv hcd haf hpar
              obtain ⟨wa, ewa⟩ : ∃ y, y = wx.alloc (.cells #[.int .i64 0, .int .i64 xf, .int .i64 xn, .string xc, .int .i64 xm, .int .i64 xd, .int .u8 xl] 36) := ⟨_, rfl⟩
              have hba : Below wx.heap.size wx wa := by rw [ewa]; exact (Below.refl _ _).alloc (Nat.le_refl _) _
              have HKBa : Hid (Rw.Blk wa wx.heap.size 36 [.int .i64 0, .int .i64 xf, .int .i64 xn, .string xc, .int .i64 xm, .int .i64 xd, .int .u8 xl]) := by rw [ewa]; exact heap_alloc_new wx _
              have HBa := Lib.hid (HBx.out.trans (hba.mono hbx))
              have HAa := Lib.hid (HAx.out.kept hba)
              rw [ewa] at HKBa HBa HAa
              clear ewa hba
              obtain ⟨q0, q1, q2, q3, q4, q5, q6⟩ := St.acts_cells (HR.out wx HBx.out)
              go_wp2_with (first
                | (go_at_call 17
                   refine (HLg.out _ HBa.out).mono ?_
                   rintro e w5 ⟨rfl, hb5⟩
                   have HB5 := Lib.hid (HBa.out.trans (hb5.mono HBa.out.size))
                   have HKB5 := Lib.hid (HKBa.out.below' hb5)
                   have HA5 := Lib.hid (HAa.out.kept hb5)
                   have hs5 : wx.heap.size < w5.heap.size := HKB5.out.lt
                   obtain ⟨w6, ew6⟩ : ∃ y, y = w5.alloc (.cells #[.string kk.car, .int .i64 kk.num, .int .i64 kk.day] 34) := ⟨_, rfl⟩
                   have hb6 : Below w5.heap.size w5 w6 := by rw [ew6]; exact (Below.refl _ _).alloc (Nat.le_refl _) _
                   have HKX6 : Hid (Rw.Blk w6 w5.heap.size 34 [.string kk.car, .int .i64 kk.num, .int .i64 kk.day]) := by rw [ew6]; exact heap_alloc_new w5 _
                   have HKB6 := Lib.hid (HKB5.out.below' hb6)
                   have HA6 := Lib.hid (HA5.out.kept hb6)
                   have HB6 := Lib.hid (HB5.out.trans (hb6.mono HB5.out.size))
                   have HS6 := Lib.hid (ssold_any Bt p t m rs' l0 kk w6 HA6.out HOkK.out)
                   rw [hcl, HSO.out] at HS6
                   have u0 : w6.cell? ⟨wx.heap.size, 0, none⟩ = some (.int .i64 0) := HKB6.out.cell 0
                   have u2 : w6.cell? ⟨wx.heap.size, 2, none⟩ = some (.int .i64 xn) := HKB6.out.cell 2
                   have u6 : w6.cell? ⟨wx.heap.size, 6, none⟩ = some (.int .u8 xl) := HKB6.out.cell 6
                   have ua : w6.cell? ⟨w5.heap.size, 0, none⟩ = some (.string kk.car) := HKX6.out.cell 0
                   have ub : w6.cell? ⟨w5.heap.size, 1, none⟩ = some (.int .i64 kk.num) := HKX6.out.cell 1
                   have uc : w6.cell? ⟨w5.heap.size, 2, none⟩ = some (.int .i64 kk.day) := HKX6.out.cell 2
                   rw [ew6] at HS6 HB6 HA6 HKB6 HKX6 u0 u2 u6 ua ub uc
                   clear ew6 hb6 hb5 q0 q1 q2 q3 q4 q5 q6)
                | (have hgd := HA9
                   go_at_call 18
                   refine HS9.out.mono ?_
                   rintro e w10 ⟨rfl, hb10⟩
                   have HB10 := Lib.hid (HB9.out.trans (hb10.mono HB9.out.size))
                   have HKB10 := Lib.hid (HKB9.out.below' hb10)
                   have HKX10 := Lib.hid (HKX9.out.below' hb10)
                   have HA10 := Lib.hid (HA9.out.kept hb10)
                   have HL10 := Lib.hid (sleft_any Bt p t m rs' l1 kk w10 HA10.out HOkK.out)
                   rw [hcl, HSO1.out, HLV.out] at HL10
                   clear y0 y2 y6 ya yb yc hb10
                   have x0 : w10.cell? ⟨wx.heap.size, 0, none⟩ = some (.int .i64 0) := HKB10.out.cell 0
                   have x2 : w10.cell? ⟨wx.heap.size, 2, none⟩ = some (.int .i64 xn) := HKB10.out.cell 2
                   have x6 : w10.cell? ⟨wx.heap.size, 6, none⟩ = some (.int .u8 xl) := HKB10.out.cell 6
                   have xa : w10.cell? ⟨w5.heap.size, 0, none⟩ = some (.string kk.car) := HKX10.out.cell 0
                   have xb : w10.cell? ⟨w5.heap.size, 1, none⟩ = some (.int .i64 kk.num) := HKX10.out.cell 1
                   have xc : w10.cell? ⟨w5.heap.size, 2, none⟩ = some (.int .i64 kk.day) := HKX10.out.cell 2)
                | (go_at_call 18
                   refine HS6.out.mono ?_
                   rintro e w7 ⟨rfl, hb7⟩
                   have HB7 := Lib.hid (HB6.out.trans (hb7.mono HB6.out.size))
                   have HKB7 := Lib.hid (HKB6.out.below' hb7)
                   have HKX7 := Lib.hid (HKX6.out.below' hb7)
                   have HA7 := Lib.hid (HA6.out.kept hb7)
                   clear u0 u2 u6 ua ub uc hb7
                   have v0 : w7.cell? ⟨wx.heap.size, 0, none⟩ = some (.int .i64 0) := HKB7.out.cell 0
                   have v2 : w7.cell? ⟨wx.heap.size, 2, none⟩ = some (.int .i64 xn) := HKB7.out.cell 2
                   have v6 : w7.cell? ⟨wx.heap.size, 6, none⟩ = some (.int .u8 xl) := HKB7.out.cell 6
                   have va : w7.cell? ⟨w5.heap.size, 0, none⟩ = some (.string kk.car) := HKX7.out.cell 0
                   have vb : w7.cell? ⟨w5.heap.size, 1, none⟩ = some (.int .i64 kk.num) := HKX7.out.cell 1
                   have vc : w7.cell? ⟨w5.heap.size, 2, none⟩ = some (.int .i64 kk.day) := HKX7.out.cell 2
                   have HSe := Lib.hid (sell_any Bt p t m rs' l0 kk xn w7 HA7.out HOkK.out HN0.out HN1.out)
                   rw [hcl, HCD.out, HAF.out] at HSe)
                | (go_at_call 19
                   refine HSe.out.mono ?_
                   rintro e w8 ⟨rfl, l1, hA8, hPu, hf8⟩
                   have HA8 := Lib.hid hA8
                   have hne : ∀ g, g < w7.heap.size → W.heap.size ≤ g → g ≠ m → g ≠ m := fun g _ _ h => h
                   have hmx : m < wx.heap.size := HAx.out.map.lt
                   have HB8 := Lib.hid (HB7.out.trans (hf8.below (B := W.heap.size) HB7.out.size (fun k hk => by have : k = m := hk; omega)))
                   have HKB8 := Lib.hid (HKB7.out.kept (hf8.block _ HKB7.out.lt (fun e => by have e : wx.heap.size = m := e; omega)))
                   have HKX8 := Lib.hid (HKX7.out.kept (hf8.block _ HKX7.out.lt (fun e => by have e : w5.heap.size = m := e; omega)))
                   have hso1 : St.sold l1 kk = (so + xn) := (hPu kk).trans (if_pos rfl)
                   have HSO1 := Lib.hid hso1
                   clear v0 v2 v6 va vb vc hA8 hPu hf8 hso1
                   have z0 : w8.cell? ⟨wx.heap.size, 0, none⟩ = some (.int .i64 0) := HKB8.out.cell 0
                   have z2 : w8.cell? ⟨wx.heap.size, 2, none⟩ = some (.int .i64 xn) := HKB8.out.cell 2
                   have z6 : w8.cell? ⟨wx.heap.size, 6, none⟩ = some (.int .u8 xl) := HKB8.out.cell 6
                   have za : w8.cell? ⟨w5.heap.size, 0, none⟩ = some (.string kk.car) := HKX8.out.cell 0
                   have zb : w8.cell? ⟨w5.heap.size, 1, none⟩ = some (.int .i64 kk.num) := HKX8.out.cell 1
                   have zc : w8.cell? ⟨w5.heap.size, 2, none⟩ = some (.int .i64 kk.day) := HKX8.out.cell 2
                   have HLv := Lib.hid (rlevel_any A rs cap W.heap.size kk.car kk.num kk.day xl w8 (HF.out.below HB8.out (Nat.le_refl _)) HB8.out.size (by omega))
                   rw [HLV1.out] at HLv)
                | (go_at_call 21
                   refine HLv.out.mono ?_
                   rintro e w9 ⟨rfl, hb9⟩
                   have HB9 := Lib.hid (HB8.out.trans (hb9.mono HB8.out.size))
                   have HKB9 := Lib.hid (HKB8.out.below' hb9)
                   have HKX9 := Lib.hid (HKX8.out.below' hb9)
                   have HA9 := Lib.hid (HA8.out.kept hb9)
                   have HS9 := Lib.hid (ssold_any Bt p t m rs' l1 kk w9 HA9.out HOkK.out)
                   rw [hcl, HSO1.out] at HS9
                   clear z0 z2 z6 za zb zc hb9
                   have y0 : w9.cell? ⟨wx.heap.size, 0, none⟩ = some (.int .i64 0) := HKB9.out.cell 0
                   have y2 : w9.cell? ⟨wx.heap.size, 2, none⟩ = some (.int .i64 xn) := HKB9.out.cell 2
                   have y6 : w9.cell? ⟨wx.heap.size, 6, none⟩ = some (.int .u8 xl) := HKB9.out.cell 6
                   have ya : w9.cell? ⟨w5.heap.size, 0, none⟩ = some (.string kk.car) := HKX9.out.cell 0
                   have yb : w9.cell? ⟨w5.heap.size, 1, none⟩ = some (.int .i64 kk.num) := HKX9.out.cell 1
                   have yc : w9.cell? ⟨w5.heap.size, 2, none⟩ = some (.int .i64 kk.day) := HKX9.out.cell 2)
                | (go_at_call 22
                   refine HL10.out.mono ?_
                   rintro e w11 ⟨rfl, hb11⟩
                   have HB11 := Lib.hid (HB10.out.trans (hb11.mono HB10.out.size))
                   have HA11 := Lib.hid (HA10.out.kept hb11)))
              go_roundw
              case rel => exact ⟨k + 1, by omega, by go_num, ⟨_, HA11.out⟩, HB11.out⟩
              case measure => simp [intOf]; omega
            · rw [if_neg hcd0] at haf2
              subst haf2
              have g0 : (cd != 0) = true := by simp [hcd0]
              have g1 : decide (af < 0) = false := by simp; omega
              have g2 : decide (lv < af) = false := by simp; omega
              have g3 : IntKind.i64.wrap (lv - af) = lv - af := IntWalk.i64_in _ (by omega)
              clear hso hlv hcd haf hpar hcd0
              obtain ⟨wa, ewa⟩ : ∃ y, y = wx.alloc (.cells #[.int .i64 0, .int .i64 xf, .int .i64 xn, .string xc, .int .i64 xm, .int .i64 xd, .int .u8 xl] 36) := ⟨_, rfl⟩
              have hba : Below wx.heap.size wx wa := by rw [ewa]; exact (Below.refl _ _).alloc (Nat.le_refl _) _
              have HKBa : Hid (Rw.Blk wa wx.heap.size 36 [.int .i64 0, .int .i64 xf, .int .i64 xn, .string xc, .int .i64 xm, .int .i64 xd, .int .u8 xl]) := by rw [ewa]; exact heap_alloc_new wx _
              have HBa := Lib.hid (HBx.out.trans (hba.mono hbx))
              have HAa := Lib.hid (HAx.out.kept hba)
              rw [ewa] at HKBa HBa HAa
              clear ewa hba
              obtain ⟨q0, q1, q2, q3, q4, q5, q6⟩ := St.acts_cells (HR.out wx HBx.out)
              go_wp2_with (first
                | (go_at_call 17
                   refine (HLg.out _ HBa.out).mono ?_
                   rintro e w5 ⟨rfl, hb5⟩
                   have HB5 := Lib.hid (HBa.out.trans (hb5.mono HBa.out.size))
                   have HKB5 := Lib.hid (HKBa.out.below' hb5)
                   have HA5 := Lib.hid (HAa.out.kept hb5)
                   have hs5 : wx.heap.size < w5.heap.size := HKB5.out.lt
                   obtain ⟨w6, ew6⟩ : ∃ y, y = w5.alloc (.cells #[.string kk.car, .int .i64 kk.num, .int .i64 kk.day] 34) := ⟨_, rfl⟩
                   have hb6 : Below w5.heap.size w5 w6 := by rw [ew6]; exact (Below.refl _ _).alloc (Nat.le_refl _) _
                   have HKX6 : Hid (Rw.Blk w6 w5.heap.size 34 [.string kk.car, .int .i64 kk.num, .int .i64 kk.day]) := by rw [ew6]; exact heap_alloc_new w5 _
                   have HKB6 := Lib.hid (HKB5.out.below' hb6)
                   have HA6 := Lib.hid (HA5.out.kept hb6)
                   have HB6 := Lib.hid (HB5.out.trans (hb6.mono HB5.out.size))
                   have HS6 := Lib.hid (ssold_any Bt p t m rs' l0 kk w6 HA6.out HOkK.out)
                   rw [hcl, HSO.out] at HS6
                   have u0 : w6.cell? ⟨wx.heap.size, 0, none⟩ = some (.int .i64 0) := HKB6.out.cell 0
                   have u2 : w6.cell? ⟨wx.heap.size, 2, none⟩ = some (.int .i64 xn) := HKB6.out.cell 2
                   have u6 : w6.cell? ⟨wx.heap.size, 6, none⟩ = some (.int .u8 xl) := HKB6.out.cell 6
                   have ua : w6.cell? ⟨w5.heap.size, 0, none⟩ = some (.string kk.car) := HKX6.out.cell 0
                   have ub : w6.cell? ⟨w5.heap.size, 1, none⟩ = some (.int .i64 kk.num) := HKX6.out.cell 1
                   have uc : w6.cell? ⟨w5.heap.size, 2, none⟩ = some (.int .i64 kk.day) := HKX6.out.cell 2
                   rw [ew6] at HS6 HB6 HA6 HKB6 HKX6 u0 u2 u6 ua ub uc
                   clear ew6 hb6 hb5 q0 q1 q2 q3 q4 q5 q6)
                | (have hgd := HA9
                   go_at_call 18
                   refine HS9.out.mono ?_
                   rintro e w10 ⟨rfl, hb10⟩
                   have HB10 := Lib.hid (HB9.out.trans (hb10.mono HB9.out.size))
                   have HKB10 := Lib.hid (HKB9.out.below' hb10)
                   have HKX10 := Lib.hid (HKX9.out.below' hb10)
                   have HA10 := Lib.hid (HA9.out.kept hb10)
                   have HL10 := Lib.hid (sleft_any Bt p t m rs' l1 kk w10 HA10.out HOkK.out)
                   rw [hcl, HSO1.out, HLV.out] at HL10
                   clear y0 y2 y6 ya yb yc hb10
                   have x0 : w10.cell? ⟨wx.heap.size, 0, none⟩ = some (.int .i64 0) := HKB10.out.cell 0
                   have x2 : w10.cell? ⟨wx.heap.size, 2, none⟩ = some (.int .i64 xn) := HKB10.out.cell 2
                   have x6 : w10.cell? ⟨wx.heap.size, 6, none⟩ = some (.int .u8 xl) := HKB10.out.cell 6
                   have xa : w10.cell? ⟨w5.heap.size, 0, none⟩ = some (.string kk.car) := HKX10.out.cell 0
                   have xb : w10.cell? ⟨w5.heap.size, 1, none⟩ = some (.int .i64 kk.num) := HKX10.out.cell 1
                   have xc : w10.cell? ⟨w5.heap.size, 2, none⟩ = some (.int .i64 kk.day) := HKX10.out.cell 2)
                | (go_at_call 18
                   refine HS6.out.mono ?_
                   rintro e w7 ⟨rfl, hb7⟩
                   have HB7 := Lib.hid (HB6.out.trans (hb7.mono HB6.out.size))
                   have HKB7 := Lib.hid (HKB6.out.below' hb7)
                   have HKX7 := Lib.hid (HKX6.out.below' hb7)
                   have HA7 := Lib.hid (HA6.out.kept hb7)
                   clear u0 u2 u6 ua ub uc hb7
                   have v0 : w7.cell? ⟨wx.heap.size, 0, none⟩ = some (.int .i64 0) := HKB7.out.cell 0
                   have v2 : w7.cell? ⟨wx.heap.size, 2, none⟩ = some (.int .i64 xn) := HKB7.out.cell 2
                   have v6 : w7.cell? ⟨wx.heap.size, 6, none⟩ = some (.int .u8 xl) := HKB7.out.cell 6
                   have va : w7.cell? ⟨w5.heap.size, 0, none⟩ = some (.string kk.car) := HKX7.out.cell 0
                   have vb : w7.cell? ⟨w5.heap.size, 1, none⟩ = some (.int .i64 kk.num) := HKX7.out.cell 1
                   have vc : w7.cell? ⟨w5.heap.size, 2, none⟩ = some (.int .i64 kk.day) := HKX7.out.cell 2
                   have HSe := Lib.hid (sell_any Bt p t m rs' l0 kk xn w7 HA7.out HOkK.out HN0.out HN1.out)
                   rw [hcl, HCD.out, HAF.out] at HSe)
                | (go_at_call 19
                   refine HSe.out.mono ?_
                   rintro e w8 ⟨rfl, l1, hA8, hPu, hf8⟩
                   have HA8 := Lib.hid hA8
                   have hne : ∀ g, g < w7.heap.size → W.heap.size ≤ g → g ≠ m → g ≠ m := fun g _ _ h => h
                   have hmx : m < wx.heap.size := HAx.out.map.lt
                   have HB8 := Lib.hid (HB7.out.trans (hf8.below (B := W.heap.size) HB7.out.size (fun k hk => by have : k = m := hk; omega)))
                   have HKB8 := Lib.hid (HKB7.out.kept (hf8.block _ HKB7.out.lt (fun e => by have e : wx.heap.size = m := e; omega)))
                   have HKX8 := Lib.hid (HKX7.out.kept (hf8.block _ HKX7.out.lt (fun e => by have e : w5.heap.size = m := e; omega)))
                   have hso1 : St.sold l1 kk = af := (hPu kk).trans (if_pos rfl)
                   have HSO1 := Lib.hid hso1
                   clear v0 v2 v6 va vb vc hA8 hPu hf8 hso1
                   have z0 : w8.cell? ⟨wx.heap.size, 0, none⟩ = some (.int .i64 0) := HKB8.out.cell 0
                   have z2 : w8.cell? ⟨wx.heap.size, 2, none⟩ = some (.int .i64 xn) := HKB8.out.cell 2
                   have z6 : w8.cell? ⟨wx.heap.size, 6, none⟩ = some (.int .u8 xl) := HKB8.out.cell 6
                   have za : w8.cell? ⟨w5.heap.size, 0, none⟩ = some (.string kk.car) := HKX8.out.cell 0
                   have zb : w8.cell? ⟨w5.heap.size, 1, none⟩ = some (.int .i64 kk.num) := HKX8.out.cell 1
                   have zc : w8.cell? ⟨w5.heap.size, 2, none⟩ = some (.int .i64 kk.day) := HKX8.out.cell 2
                   have HLv := Lib.hid (rlevel_any A rs cap W.heap.size kk.car kk.num kk.day xl w8 (HF.out.below HB8.out (Nat.le_refl _)) HB8.out.size (by omega))
                   rw [HLV1.out] at HLv)
                | (go_at_call 21
                   refine HLv.out.mono ?_
                   rintro e w9 ⟨rfl, hb9⟩
                   have HB9 := Lib.hid (HB8.out.trans (hb9.mono HB8.out.size))
                   have HKB9 := Lib.hid (HKB8.out.below' hb9)
                   have HKX9 := Lib.hid (HKX8.out.below' hb9)
                   have HA9 := Lib.hid (HA8.out.kept hb9)
                   have HS9 := Lib.hid (ssold_any Bt p t m rs' l1 kk w9 HA9.out HOkK.out)
                   rw [hcl, HSO1.out] at HS9
                   clear z0 z2 z6 za zb zc hb9
                   have y0 : w9.cell? ⟨wx.heap.size, 0, none⟩ = some (.int .i64 0) := HKB9.out.cell 0
                   have y2 : w9.cell? ⟨wx.heap.size, 2, none⟩ = some (.int .i64 xn) := HKB9.out.cell 2
                   have y6 : w9.cell? ⟨wx.heap.size, 6, none⟩ = some (.int .u8 xl) := HKB9.out.cell 6
                   have ya : w9.cell? ⟨w5.heap.size, 0, none⟩ = some (.string kk.car) := HKX9.out.cell 0
                   have yb : w9.cell? ⟨w5.heap.size, 1, none⟩ = some (.int .i64 kk.num) := HKX9.out.cell 1
                   have yc : w9.cell? ⟨w5.heap.size, 2, none⟩ = some (.int .i64 kk.day) := HKX9.out.cell 2)
                | (go_at_call 22
                   refine HL10.out.mono ?_
                   rintro e w11 ⟨rfl, hb11⟩
                   have HB11 := Lib.hid (HB10.out.trans (hb11.mono HB10.out.size))
                   have HA11 := Lib.hid (HA10.out.kept hb11)))
              go_roundw
              case rel => exact ⟨k + 1, by omega, by go_num, ⟨_, HA11.out⟩, HB11.out⟩
              case measure => simp [intOf]; omega
          · by_cases hkd1 : x.kind = 1
            · replace hkd := hkd1
              clear hkd1
              have hsb := HCB.out x.n
              obtain ⟨cd, hcd⟩ : ∃ y, y = St.cancelE rs' l0 kk x.n := ⟨_, rfl⟩
              obtain ⟨af, haf⟩ : ∃ y, y = St.cancelA rs' l0 kk x.n := ⟨_, rfl⟩
              have haf2 : af = if cd = 0 then so - x.n else so := by rw [haf, hcd, hso]; rfl
              have HCD : Hid (St.cancelE rs' l0 kk x.n = cd) := hcd.symm
              have HAF : Hid (St.cancelA rs' l0 kk x.n = af) := haf.symm
              have hpar : cd = 0 → 1 ≤ x.n ∧ x.n ≤ 9 := fun h => St.cancel_party (hcd.symm.trans h)
              rw [← haf, ← hlv] at hsb
              clear HSB HCB
              obtain ⟨xk, xf, xn, xc, xm, xd, xl⟩ := x
              simp only at hkd HLg HR HN0 HN1 hcl HLV1 HCD HAF hpar haf2
              subst hkd
              by_cases hcd0 : cd = 0
              · obtain ⟨hn0, hn1⟩ := hpar hcd0
                rw [if_pos hcd0] at haf2
                subst hcd0
                subst haf2
                have g0 : min (max xn 0) 9 = xn := by omega
                have g4 : IntKind.i64.wrap (so - xn) = so - xn := IntWalk.i64_in _ (by omega)
                have g1 : decide (so - xn < 0) = false := by simp; omega
                have g2 : decide (lv < so - xn) = false := by simp; omega
                have g3 : IntKind.i64.wrap (lv - (so - xn)) = lv - (so - xn) := IntWalk.i64_in _ (by omega)
                clear hso hlv hcd haf hpar
                obtain ⟨wa, ewa⟩ : ∃ y, y = wx.alloc (.cells #[.int .i64 1, .int .i64 xf, .int .i64 xn, .string xc, .int .i64 xm, .int .i64 xd, .int .u8 xl] 36) := ⟨_, rfl⟩
                have hba : Below wx.heap.size wx wa := by rw [ewa]; exact (Below.refl _ _).alloc (Nat.le_refl _) _
                have HKBa : Hid (Rw.Blk wa wx.heap.size 36 [.int .i64 1, .int .i64 xf, .int .i64 xn, .string xc, .int .i64 xm, .int .i64 xd, .int .u8 xl]) := by rw [ewa]; exact heap_alloc_new wx _
                have HBa := Lib.hid (HBx.out.trans (hba.mono hbx))
                have HAa := Lib.hid (HAx.out.kept hba)
                rw [ewa] at HKBa HBa HAa
                clear ewa hba
                obtain ⟨q0, q1, q2, q3, q4, q5, q6⟩ := St.acts_cells (HR.out wx HBx.out)
                go_wp2_with (first
                  | (go_at_call 17
                     refine (HLg.out _ HBa.out).mono ?_
                     rintro e w5 ⟨rfl, hb5⟩
                     have HB5 := Lib.hid (HBa.out.trans (hb5.mono HBa.out.size))
                     have HKB5 := Lib.hid (HKBa.out.below' hb5)
                     have HA5 := Lib.hid (HAa.out.kept hb5)
                     have hs5 : wx.heap.size < w5.heap.size := HKB5.out.lt
                     obtain ⟨w6, ew6⟩ : ∃ y, y = w5.alloc (.cells #[.string kk.car, .int .i64 kk.num, .int .i64 kk.day] 34) := ⟨_, rfl⟩
                     have hb6 : Below w5.heap.size w5 w6 := by rw [ew6]; exact (Below.refl _ _).alloc (Nat.le_refl _) _
                     have HKX6 : Hid (Rw.Blk w6 w5.heap.size 34 [.string kk.car, .int .i64 kk.num, .int .i64 kk.day]) := by rw [ew6]; exact heap_alloc_new w5 _
                     have HKB6 := Lib.hid (HKB5.out.below' hb6)
                     have HA6 := Lib.hid (HA5.out.kept hb6)
                     have HB6 := Lib.hid (HB5.out.trans (hb6.mono HB5.out.size))
                     have HS6 := Lib.hid (ssold_any Bt p t m rs' l0 kk w6 HA6.out HOkK.out)
                     rw [hcl, HSO.out] at HS6
                     have u0 : w6.cell? ⟨wx.heap.size, 0, none⟩ = some (.int .i64 1) := HKB6.out.cell 0
                     have u2 : w6.cell? ⟨wx.heap.size, 2, none⟩ = some (.int .i64 xn) := HKB6.out.cell 2
                     have u6 : w6.cell? ⟨wx.heap.size, 6, none⟩ = some (.int .u8 xl) := HKB6.out.cell 6
                     have ua : w6.cell? ⟨w5.heap.size, 0, none⟩ = some (.string kk.car) := HKX6.out.cell 0
                     have ub : w6.cell? ⟨w5.heap.size, 1, none⟩ = some (.int .i64 kk.num) := HKX6.out.cell 1
                     have uc : w6.cell? ⟨w5.heap.size, 2, none⟩ = some (.int .i64 kk.day) := HKX6.out.cell 2
                     rw [ew6] at HS6 HB6 HA6 HKB6 HKX6 u0 u2 u6 ua ub uc
                     clear ew6 hb6 hb5 q0 q1 q2 q3 q4 q5 q6)
                  | (have hgd := HA9
                     go_at_call 18
                     refine HS9.out.mono ?_
                     rintro e w10 ⟨rfl, hb10⟩
                     have HB10 := Lib.hid (HB9.out.trans (hb10.mono HB9.out.size))
                     have HKB10 := Lib.hid (HKB9.out.below' hb10)
                     have HKX10 := Lib.hid (HKX9.out.below' hb10)
                     have HA10 := Lib.hid (HA9.out.kept hb10)
                     have HL10 := Lib.hid (sleft_any Bt p t m rs' l1 kk w10 HA10.out HOkK.out)
                     rw [hcl, HSO1.out, HLV.out] at HL10
                     clear y0 y2 y6 ya yb yc hb10
                     have x0 : w10.cell? ⟨wx.heap.size, 0, none⟩ = some (.int .i64 1) := HKB10.out.cell 0
                     have x2 : w10.cell? ⟨wx.heap.size, 2, none⟩ = some (.int .i64 xn) := HKB10.out.cell 2
                     have x6 : w10.cell? ⟨wx.heap.size, 6, none⟩ = some (.int .u8 xl) := HKB10.out.cell 6
                     have xa : w10.cell? ⟨w5.heap.size, 0, none⟩ = some (.string kk.car) := HKX10.out.cell 0
                     have xb : w10.cell? ⟨w5.heap.size, 1, none⟩ = some (.int .i64 kk.num) := HKX10.out.cell 1
                     have xc : w10.cell? ⟨w5.heap.size, 2, none⟩ = some (.int .i64 kk.day) := HKX10.out.cell 2)
                  | (go_at_call 18
                     refine HS6.out.mono ?_
                     rintro e w7 ⟨rfl, hb7⟩
                     have HB7 := Lib.hid (HB6.out.trans (hb7.mono HB6.out.size))
                     have HKB7 := Lib.hid (HKB6.out.below' hb7)
                     have HKX7 := Lib.hid (HKX6.out.below' hb7)
                     have HA7 := Lib.hid (HA6.out.kept hb7)
                     clear u0 u2 u6 ua ub uc hb7
                     have v0 : w7.cell? ⟨wx.heap.size, 0, none⟩ = some (.int .i64 1) := HKB7.out.cell 0
                     have v2 : w7.cell? ⟨wx.heap.size, 2, none⟩ = some (.int .i64 xn) := HKB7.out.cell 2
                     have v6 : w7.cell? ⟨wx.heap.size, 6, none⟩ = some (.int .u8 xl) := HKB7.out.cell 6
                     have va : w7.cell? ⟨w5.heap.size, 0, none⟩ = some (.string kk.car) := HKX7.out.cell 0
                     have vb : w7.cell? ⟨w5.heap.size, 1, none⟩ = some (.int .i64 kk.num) := HKX7.out.cell 1
                     have vc : w7.cell? ⟨w5.heap.size, 2, none⟩ = some (.int .i64 kk.day) := HKX7.out.cell 2
                     have HSe := Lib.hid (cancel_any Bt p t m rs' l0 kk xn w7 HA7.out HOkK.out HN0.out HN1.out)
                     rw [hcl, HCD.out, HAF.out] at HSe)
                  | (go_at_call 20
                     refine HSe.out.mono ?_
                     rintro e w8 ⟨rfl, l1, hA8, hPu, hf8⟩
                     have HA8 := Lib.hid hA8
                     have hne : ∀ g, g < w7.heap.size → W.heap.size ≤ g → g ≠ m → g ≠ m := fun g _ _ h => h
                     have hmx : m < wx.heap.size := HAx.out.map.lt
                     have HB8 := Lib.hid (HB7.out.trans (hf8.below (B := W.heap.size) HB7.out.size (fun k hk => by have : k = m := hk; omega)))
                     have HKB8 := Lib.hid (HKB7.out.kept (hf8.block _ HKB7.out.lt (fun e => by have e : wx.heap.size = m := e; omega)))
                     have HKX8 := Lib.hid (HKX7.out.kept (hf8.block _ HKX7.out.lt (fun e => by have e : w5.heap.size = m := e; omega)))
                     have hso1 : St.sold l1 kk = (so - xn) := (hPu kk).trans (if_pos rfl)
                     have HSO1 := Lib.hid hso1
                     clear v0 v2 v6 va vb vc hA8 hPu hf8 hso1
                     have z0 : w8.cell? ⟨wx.heap.size, 0, none⟩ = some (.int .i64 1) := HKB8.out.cell 0
                     have z2 : w8.cell? ⟨wx.heap.size, 2, none⟩ = some (.int .i64 xn) := HKB8.out.cell 2
                     have z6 : w8.cell? ⟨wx.heap.size, 6, none⟩ = some (.int .u8 xl) := HKB8.out.cell 6
                     have za : w8.cell? ⟨w5.heap.size, 0, none⟩ = some (.string kk.car) := HKX8.out.cell 0
                     have zb : w8.cell? ⟨w5.heap.size, 1, none⟩ = some (.int .i64 kk.num) := HKX8.out.cell 1
                     have zc : w8.cell? ⟨w5.heap.size, 2, none⟩ = some (.int .i64 kk.day) := HKX8.out.cell 2
                     have HLv := Lib.hid (rlevel_any A rs cap W.heap.size kk.car kk.num kk.day xl w8 (HF.out.below HB8.out (Nat.le_refl _)) HB8.out.size (by omega))
                     rw [HLV1.out] at HLv)
                  | (go_at_call 21
                     refine HLv.out.mono ?_
                     rintro e w9 ⟨rfl, hb9⟩
                     have HB9 := Lib.hid (HB8.out.trans (hb9.mono HB8.out.size))
                     have HKB9 := Lib.hid (HKB8.out.below' hb9)
                     have HKX9 := Lib.hid (HKX8.out.below' hb9)
                     have HA9 := Lib.hid (HA8.out.kept hb9)
                     have HS9 := Lib.hid (ssold_any Bt p t m rs' l1 kk w9 HA9.out HOkK.out)
                     rw [hcl, HSO1.out] at HS9
                     clear z0 z2 z6 za zb zc hb9
                     have y0 : w9.cell? ⟨wx.heap.size, 0, none⟩ = some (.int .i64 1) := HKB9.out.cell 0
                     have y2 : w9.cell? ⟨wx.heap.size, 2, none⟩ = some (.int .i64 xn) := HKB9.out.cell 2
                     have y6 : w9.cell? ⟨wx.heap.size, 6, none⟩ = some (.int .u8 xl) := HKB9.out.cell 6
                     have ya : w9.cell? ⟨w5.heap.size, 0, none⟩ = some (.string kk.car) := HKX9.out.cell 0
                     have yb : w9.cell? ⟨w5.heap.size, 1, none⟩ = some (.int .i64 kk.num) := HKX9.out.cell 1
                     have yc : w9.cell? ⟨w5.heap.size, 2, none⟩ = some (.int .i64 kk.day) := HKX9.out.cell 2)
                  | (go_at_call 22
                     refine HL10.out.mono ?_
                     rintro e w11 ⟨rfl, hb11⟩
                     have HB11 := Lib.hid (HB10.out.trans (hb11.mono HB10.out.size))
                     have HA11 := Lib.hid (HA10.out.kept hb11)))
                go_roundw
                case rel => exact ⟨k + 1, by omega, by go_num, ⟨_, HA11.out⟩, HB11.out⟩
                case measure => simp [intOf]; omega
              · rw [if_neg hcd0] at haf2
                subst haf2
                have g0 : (cd != 0) = true := by simp [hcd0]
                have g1 : decide (af < 0) = false := by simp; omega
                have g2 : decide (lv < af) = false := by simp; omega
                have g3 : IntKind.i64.wrap (lv - af) = lv - af := IntWalk.i64_in _ (by omega)
                clear hso hlv hcd haf hpar hcd0
                obtain ⟨wa, ewa⟩ : ∃ y, y = wx.alloc (.cells #[.int .i64 1, .int .i64 xf, .int .i64 xn, .string xc, .int .i64 xm, .int .i64 xd, .int .u8 xl] 36) := ⟨_, rfl⟩
                have hba : Below wx.heap.size wx wa := by rw [ewa]; exact (Below.refl _ _).alloc (Nat.le_refl _) _
                have HKBa : Hid (Rw.Blk wa wx.heap.size 36 [.int .i64 1, .int .i64 xf, .int .i64 xn, .string xc, .int .i64 xm, .int .i64 xd, .int .u8 xl]) := by rw [ewa]; exact heap_alloc_new wx _
                have HBa := Lib.hid (HBx.out.trans (hba.mono hbx))
                have HAa := Lib.hid (HAx.out.kept hba)
                rw [ewa] at HKBa HBa HAa
                clear ewa hba
                obtain ⟨q0, q1, q2, q3, q4, q5, q6⟩ := St.acts_cells (HR.out wx HBx.out)
                go_wp2_with (first
                  | (go_at_call 17
                     refine (HLg.out _ HBa.out).mono ?_
                     rintro e w5 ⟨rfl, hb5⟩
                     have HB5 := Lib.hid (HBa.out.trans (hb5.mono HBa.out.size))
                     have HKB5 := Lib.hid (HKBa.out.below' hb5)
                     have HA5 := Lib.hid (HAa.out.kept hb5)
                     have hs5 : wx.heap.size < w5.heap.size := HKB5.out.lt
                     obtain ⟨w6, ew6⟩ : ∃ y, y = w5.alloc (.cells #[.string kk.car, .int .i64 kk.num, .int .i64 kk.day] 34) := ⟨_, rfl⟩
                     have hb6 : Below w5.heap.size w5 w6 := by rw [ew6]; exact (Below.refl _ _).alloc (Nat.le_refl _) _
                     have HKX6 : Hid (Rw.Blk w6 w5.heap.size 34 [.string kk.car, .int .i64 kk.num, .int .i64 kk.day]) := by rw [ew6]; exact heap_alloc_new w5 _
                     have HKB6 := Lib.hid (HKB5.out.below' hb6)
                     have HA6 := Lib.hid (HA5.out.kept hb6)
                     have HB6 := Lib.hid (HB5.out.trans (hb6.mono HB5.out.size))
                     have HS6 := Lib.hid (ssold_any Bt p t m rs' l0 kk w6 HA6.out HOkK.out)
                     rw [hcl, HSO.out] at HS6
                     have u0 : w6.cell? ⟨wx.heap.size, 0, none⟩ = some (.int .i64 1) := HKB6.out.cell 0
                     have u2 : w6.cell? ⟨wx.heap.size, 2, none⟩ = some (.int .i64 xn) := HKB6.out.cell 2
                     have u6 : w6.cell? ⟨wx.heap.size, 6, none⟩ = some (.int .u8 xl) := HKB6.out.cell 6
                     have ua : w6.cell? ⟨w5.heap.size, 0, none⟩ = some (.string kk.car) := HKX6.out.cell 0
                     have ub : w6.cell? ⟨w5.heap.size, 1, none⟩ = some (.int .i64 kk.num) := HKX6.out.cell 1
                     have uc : w6.cell? ⟨w5.heap.size, 2, none⟩ = some (.int .i64 kk.day) := HKX6.out.cell 2
                     rw [ew6] at HS6 HB6 HA6 HKB6 HKX6 u0 u2 u6 ua ub uc
                     clear ew6 hb6 hb5 q0 q1 q2 q3 q4 q5 q6)
                  | (have hgd := HA9
                     go_at_call 18
                     refine HS9.out.mono ?_
                     rintro e w10 ⟨rfl, hb10⟩
                     have HB10 := Lib.hid (HB9.out.trans (hb10.mono HB9.out.size))
                     have HKB10 := Lib.hid (HKB9.out.below' hb10)
                     have HKX10 := Lib.hid (HKX9.out.below' hb10)
                     have HA10 := Lib.hid (HA9.out.kept hb10)
                     have HL10 := Lib.hid (sleft_any Bt p t m rs' l1 kk w10 HA10.out HOkK.out)
                     rw [hcl, HSO1.out, HLV.out] at HL10
                     clear y0 y2 y6 ya yb yc hb10
                     have x0 : w10.cell? ⟨wx.heap.size, 0, none⟩ = some (.int .i64 1) := HKB10.out.cell 0
                     have x2 : w10.cell? ⟨wx.heap.size, 2, none⟩ = some (.int .i64 xn) := HKB10.out.cell 2
                     have x6 : w10.cell? ⟨wx.heap.size, 6, none⟩ = some (.int .u8 xl) := HKB10.out.cell 6
                     have xa : w10.cell? ⟨w5.heap.size, 0, none⟩ = some (.string kk.car) := HKX10.out.cell 0
                     have xb : w10.cell? ⟨w5.heap.size, 1, none⟩ = some (.int .i64 kk.num) := HKX10.out.cell 1
                     have xc : w10.cell? ⟨w5.heap.size, 2, none⟩ = some (.int .i64 kk.day) := HKX10.out.cell 2)
                  | (go_at_call 18
                     refine HS6.out.mono ?_
                     rintro e w7 ⟨rfl, hb7⟩
                     have HB7 := Lib.hid (HB6.out.trans (hb7.mono HB6.out.size))
                     have HKB7 := Lib.hid (HKB6.out.below' hb7)
                     have HKX7 := Lib.hid (HKX6.out.below' hb7)
                     have HA7 := Lib.hid (HA6.out.kept hb7)
                     clear u0 u2 u6 ua ub uc hb7
                     have v0 : w7.cell? ⟨wx.heap.size, 0, none⟩ = some (.int .i64 1) := HKB7.out.cell 0
                     have v2 : w7.cell? ⟨wx.heap.size, 2, none⟩ = some (.int .i64 xn) := HKB7.out.cell 2
                     have v6 : w7.cell? ⟨wx.heap.size, 6, none⟩ = some (.int .u8 xl) := HKB7.out.cell 6
                     have va : w7.cell? ⟨w5.heap.size, 0, none⟩ = some (.string kk.car) := HKX7.out.cell 0
                     have vb : w7.cell? ⟨w5.heap.size, 1, none⟩ = some (.int .i64 kk.num) := HKX7.out.cell 1
                     have vc : w7.cell? ⟨w5.heap.size, 2, none⟩ = some (.int .i64 kk.day) := HKX7.out.cell 2
                     have HSe := Lib.hid (cancel_any Bt p t m rs' l0 kk xn w7 HA7.out HOkK.out HN0.out HN1.out)
                     rw [hcl, HCD.out, HAF.out] at HSe)
                  | (go_at_call 20
                     refine HSe.out.mono ?_
                     rintro e w8 ⟨rfl, l1, hA8, hPu, hf8⟩
                     have HA8 := Lib.hid hA8
                     have hne : ∀ g, g < w7.heap.size → W.heap.size ≤ g → g ≠ m → g ≠ m := fun g _ _ h => h
                     have hmx : m < wx.heap.size := HAx.out.map.lt
                     have HB8 := Lib.hid (HB7.out.trans (hf8.below (B := W.heap.size) HB7.out.size (fun k hk => by have : k = m := hk; omega)))
                     have HKB8 := Lib.hid (HKB7.out.kept (hf8.block _ HKB7.out.lt (fun e => by have e : wx.heap.size = m := e; omega)))
                     have HKX8 := Lib.hid (HKX7.out.kept (hf8.block _ HKX7.out.lt (fun e => by have e : w5.heap.size = m := e; omega)))
                     have hso1 : St.sold l1 kk = af := (hPu kk).trans (if_pos rfl)
                     have HSO1 := Lib.hid hso1
                     clear v0 v2 v6 va vb vc hA8 hPu hf8 hso1
                     have z0 : w8.cell? ⟨wx.heap.size, 0, none⟩ = some (.int .i64 1) := HKB8.out.cell 0
                     have z2 : w8.cell? ⟨wx.heap.size, 2, none⟩ = some (.int .i64 xn) := HKB8.out.cell 2
                     have z6 : w8.cell? ⟨wx.heap.size, 6, none⟩ = some (.int .u8 xl) := HKB8.out.cell 6
                     have za : w8.cell? ⟨w5.heap.size, 0, none⟩ = some (.string kk.car) := HKX8.out.cell 0
                     have zb : w8.cell? ⟨w5.heap.size, 1, none⟩ = some (.int .i64 kk.num) := HKX8.out.cell 1
                     have zc : w8.cell? ⟨w5.heap.size, 2, none⟩ = some (.int .i64 kk.day) := HKX8.out.cell 2
                     have HLv := Lib.hid (rlevel_any A rs cap W.heap.size kk.car kk.num kk.day xl w8 (HF.out.below HB8.out (Nat.le_refl _)) HB8.out.size (by omega))
                     rw [HLV1.out] at HLv)
                  | (go_at_call 21
                     refine HLv.out.mono ?_
                     rintro e w9 ⟨rfl, hb9⟩
                     have HB9 := Lib.hid (HB8.out.trans (hb9.mono HB8.out.size))
                     have HKB9 := Lib.hid (HKB8.out.below' hb9)
                     have HKX9 := Lib.hid (HKX8.out.below' hb9)
                     have HA9 := Lib.hid (HA8.out.kept hb9)
                     have HS9 := Lib.hid (ssold_any Bt p t m rs' l1 kk w9 HA9.out HOkK.out)
                     rw [hcl, HSO1.out] at HS9
                     clear z0 z2 z6 za zb zc hb9
                     have y0 : w9.cell? ⟨wx.heap.size, 0, none⟩ = some (.int .i64 1) := HKB9.out.cell 0
                     have y2 : w9.cell? ⟨wx.heap.size, 2, none⟩ = some (.int .i64 xn) := HKB9.out.cell 2
                     have y6 : w9.cell? ⟨wx.heap.size, 6, none⟩ = some (.int .u8 xl) := HKB9.out.cell 6
                     have ya : w9.cell? ⟨w5.heap.size, 0, none⟩ = some (.string kk.car) := HKX9.out.cell 0
                     have yb : w9.cell? ⟨w5.heap.size, 1, none⟩ = some (.int .i64 kk.num) := HKX9.out.cell 1
                     have yc : w9.cell? ⟨w5.heap.size, 2, none⟩ = some (.int .i64 kk.day) := HKX9.out.cell 2)
                  | (go_at_call 22
                     refine HL10.out.mono ?_
                     rintro e w11 ⟨rfl, hb11⟩
                     have HB11 := Lib.hid (HB10.out.trans (hb11.mono HB10.out.size))
                     have HA11 := Lib.hid (HA10.out.kept hb11)))
                go_roundw
                case rel => exact ⟨k + 1, by omega, by go_num, ⟨_, HA11.out⟩, HB11.out⟩
                case measure => simp [intOf]; omega
            · replace hkd := And.intro hkd hkd1
              clear hkd1
              obtain ⟨xk, xf, xn, xc, xm, xd, xl⟩ := x
              simp only at hkd HLg HR HN0 HN1 hcl HLV1 
              have hk0 : (xk == 0) = false := by simp [hkd.1]
              have hk1 : (xk == 1) = false := by simp [hkd.2]
              have g1 : decide (so < 0) = false := by simp; omega
              have g2 : decide (lv < so) = false := by simp; omega
              have g3 : IntKind.i64.wrap (lv - so) = lv - so := IntWalk.i64_in _ (by omega)
              clear HSB HCB hso hlv
              obtain ⟨wa, ewa⟩ : ∃ y, y = wx.alloc (.cells #[.int .i64 xk, .int .i64 xf, .int .i64 xn, .string xc, .int .i64 xm, .int .i64 xd, .int .u8 xl] 36) := ⟨_, rfl⟩
              have hba : Below wx.heap.size wx wa := by rw [ewa]; exact (Below.refl _ _).alloc (Nat.le_refl _) _
              have HKBa : Hid (Rw.Blk wa wx.heap.size 36 [.int .i64 xk, .int .i64 xf, .int .i64 xn, .string xc, .int .i64 xm, .int .i64 xd, .int .u8 xl]) := by rw [ewa]; exact heap_alloc_new wx _
              have HBa := Lib.hid (HBx.out.trans (hba.mono hbx))
              have HAa := Lib.hid (HAx.out.kept hba)
              rw [ewa] at HKBa HBa HAa
              clear ewa hba
              obtain ⟨q0, q1, q2, q3, q4, q5, q6⟩ := St.acts_cells (HR.out wx HBx.out)
              go_wp2_with (first
                | (go_at_call 17
                   refine (HLg.out _ HBa.out).mono ?_
                   rintro e w5 ⟨rfl, hb5⟩
                   have HB5 := Lib.hid (HBa.out.trans (hb5.mono HBa.out.size))
                   have HKB5 := Lib.hid (HKBa.out.below' hb5)
                   have HA5 := Lib.hid (HAa.out.kept hb5)
                   have hs5 : wx.heap.size < w5.heap.size := HKB5.out.lt
                   obtain ⟨w6, ew6⟩ : ∃ y, y = w5.alloc (.cells #[.string kk.car, .int .i64 kk.num, .int .i64 kk.day] 34) := ⟨_, rfl⟩
                   have hb6 : Below w5.heap.size w5 w6 := by rw [ew6]; exact (Below.refl _ _).alloc (Nat.le_refl _) _
                   have HKX6 : Hid (Rw.Blk w6 w5.heap.size 34 [.string kk.car, .int .i64 kk.num, .int .i64 kk.day]) := by rw [ew6]; exact heap_alloc_new w5 _
                   have HKB6 := Lib.hid (HKB5.out.below' hb6)
                   have HA6 := Lib.hid (HA5.out.kept hb6)
                   have HB6 := Lib.hid (HB5.out.trans (hb6.mono HB5.out.size))
                   have HS6 := Lib.hid (ssold_any Bt p t m rs' l0 kk w6 HA6.out HOkK.out)
                   rw [hcl, HSO.out] at HS6
                   have u0 : w6.cell? ⟨wx.heap.size, 0, none⟩ = some (.int .i64 xk) := HKB6.out.cell 0
                   have u2 : w6.cell? ⟨wx.heap.size, 2, none⟩ = some (.int .i64 xn) := HKB6.out.cell 2
                   have u6 : w6.cell? ⟨wx.heap.size, 6, none⟩ = some (.int .u8 xl) := HKB6.out.cell 6
                   have ua : w6.cell? ⟨w5.heap.size, 0, none⟩ = some (.string kk.car) := HKX6.out.cell 0
                   have ub : w6.cell? ⟨w5.heap.size, 1, none⟩ = some (.int .i64 kk.num) := HKX6.out.cell 1
                   have uc : w6.cell? ⟨w5.heap.size, 2, none⟩ = some (.int .i64 kk.day) := HKX6.out.cell 2
                   rw [ew6] at HS6 HB6 HA6 HKB6 HKX6 u0 u2 u6 ua ub uc
                   clear ew6 hb6 hb5 q0 q1 q2 q3 q4 q5 q6)
                | (have hgd := HA9
                   go_at_call 18
                   refine HS9.out.mono ?_
                   rintro e w10 ⟨rfl, hb10⟩
                   have HB10 := Lib.hid (HB9.out.trans (hb10.mono HB9.out.size))
                   have HKB10 := Lib.hid (HKB9.out.below' hb10)
                   have HKX10 := Lib.hid (HKX9.out.below' hb10)
                   have HA10 := Lib.hid (HA9.out.kept hb10)
                   have HL10 := Lib.hid (sleft_any Bt p t m rs' l0 kk w10 HA10.out HOkK.out)
                   rw [hcl, HSO.out, HLV.out] at HL10
                   clear y0 y2 y6 ya yb yc hb10
                   have x0 : w10.cell? ⟨wx.heap.size, 0, none⟩ = some (.int .i64 xk) := HKB10.out.cell 0
                   have x2 : w10.cell? ⟨wx.heap.size, 2, none⟩ = some (.int .i64 xn) := HKB10.out.cell 2
                   have x6 : w10.cell? ⟨wx.heap.size, 6, none⟩ = some (.int .u8 xl) := HKB10.out.cell 6
                   have xa : w10.cell? ⟨w5.heap.size, 0, none⟩ = some (.string kk.car) := HKX10.out.cell 0
                   have xb : w10.cell? ⟨w5.heap.size, 1, none⟩ = some (.int .i64 kk.num) := HKX10.out.cell 1
                   have xc : w10.cell? ⟨w5.heap.size, 2, none⟩ = some (.int .i64 kk.day) := HKX10.out.cell 2)
                | (go_at_call 18
                   refine HS6.out.mono ?_
                   rintro e w7 ⟨rfl, hb7⟩
                   have HB7 := Lib.hid (HB6.out.trans (hb7.mono HB6.out.size))
                   have HKB7 := Lib.hid (HKB6.out.below' hb7)
                   have HKX7 := Lib.hid (HKX6.out.below' hb7)
                   have HA7 := Lib.hid (HA6.out.kept hb7)
                   clear u0 u2 u6 ua ub uc hb7
                   have v0 : w7.cell? ⟨wx.heap.size, 0, none⟩ = some (.int .i64 xk) := HKB7.out.cell 0
                   have v2 : w7.cell? ⟨wx.heap.size, 2, none⟩ = some (.int .i64 xn) := HKB7.out.cell 2
                   have v6 : w7.cell? ⟨wx.heap.size, 6, none⟩ = some (.int .u8 xl) := HKB7.out.cell 6
                   have va : w7.cell? ⟨w5.heap.size, 0, none⟩ = some (.string kk.car) := HKX7.out.cell 0
                   have vb : w7.cell? ⟨w5.heap.size, 1, none⟩ = some (.int .i64 kk.num) := HKX7.out.cell 1
                   have vc : w7.cell? ⟨w5.heap.size, 2, none⟩ = some (.int .i64 kk.day) := HKX7.out.cell 2
                   have HLv := Lib.hid (rlevel_any A rs cap W.heap.size kk.car kk.num kk.day xl w7 (HF.out.below HB7.out (Nat.le_refl _)) HB7.out.size (by omega))
                   rw [HLV1.out] at HLv)
                | (go_at_call 21
                   refine HLv.out.mono ?_
                   rintro e w9 ⟨rfl, hb9⟩
                   have HB9 := Lib.hid (HB7.out.trans (hb9.mono HB7.out.size))
                   have HKB9 := Lib.hid (HKB7.out.below' hb9)
                   have HKX9 := Lib.hid (HKX7.out.below' hb9)
                   have HA9 := Lib.hid (HA7.out.kept hb9)
                   have HS9 := Lib.hid (ssold_any Bt p t m rs' l0 kk w9 HA9.out HOkK.out)
                   rw [hcl, HSO.out] at HS9
                   clear v0 v2 v6 va vb vc hb9
                   have y0 : w9.cell? ⟨wx.heap.size, 0, none⟩ = some (.int .i64 xk) := HKB9.out.cell 0
                   have y2 : w9.cell? ⟨wx.heap.size, 2, none⟩ = some (.int .i64 xn) := HKB9.out.cell 2
                   have y6 : w9.cell? ⟨wx.heap.size, 6, none⟩ = some (.int .u8 xl) := HKB9.out.cell 6
                   have ya : w9.cell? ⟨w5.heap.size, 0, none⟩ = some (.string kk.car) := HKX9.out.cell 0
                   have yb : w9.cell? ⟨w5.heap.size, 1, none⟩ = some (.int .i64 kk.num) := HKX9.out.cell 1
                   have yc : w9.cell? ⟨w5.heap.size, 2, none⟩ = some (.int .i64 kk.day) := HKX9.out.cell 2)
                | (go_at_call 22
                   refine HL10.out.mono ?_
                   rintro e w11 ⟨rfl, hb11⟩
                   have HB11 := Lib.hid (HB10.out.trans (hb11.mono HB10.out.size))
                   have HA11 := Lib.hid (HA10.out.kept hb11)))
              go_roundw
              case rel => exact ⟨k + 1, by omega, by go_num, ⟨_, HA11.out⟩, HB11.out⟩
              case measure => simp [intOf]; omega
        · have hlt2 : decide ((k : Int) < (sc.length : Int)) = false := by simp; omega
          go_wp2
          go_ret
          exact ⟨rfl, HBx.out⟩
  · have HBg : Hid (∀ w, Below W.heap.size W w → Calls Tryz.prog 9 #[.slice A rs.length cap] w fun e w' => e = .returned (.tuple #[.pointer none, .bool false]) ∧ Below w.heap.size w w') := fun w hb => by
      rcases Nat.lt_or_ge 64 rs.length with h | h
      · exact begun_many A rs.length cap w h hl
      · exact begun_bad A rs cap W.heap.size w (HF.out.below hb (Nat.le_refl _)) hb.size h (fun e => hgood ⟨h, e⟩)
    clear hgood
    go_enter Tryz.func5, Tryz.ntmps5
    go_wp2_with (first
      | (go_at_call 8; refine HAw.out.mono ?_; rintro e w2 ⟨rfl, hb2⟩; have HB2 := Lib.hid hb2)
      | (go_at_call 9; refine (HBg.out _ HB2.out).mono ?_; rintro e w3 ⟨rfl, hb3⟩; have HB3 := Lib.hid (HB2.out.trans (hb3.mono HB2.out.size))))
    go_ret
    exact ⟨rfl, HB3.out⟩
end Go.Proofs.YtmcekicaigbccaaGreat
