/- StockApart's walk. -/
import Derived.Test.YtmcekicaigbccaaGreatStFrm
import Derived.Deep.RegionHeld3
namespace Go.Proofs.YtmcekicaigbccaaGreat
open Go.ChangeShapes Go.WideShapes Go.ChangeAt Go.RowKit
set_option linter.unusedVariables false

namespace St
/-- The stock s, whatever is sold. -/
def Some (w : World) (Bt p t m : Nat) (rs : List Fl.R) : Prop := ∃ l, At w Bt p t m rs l
theorem acts_cells {w : World} {b o : Nat} {a : A} (h : w.rangeAt b o (acs a)) : w.cell? ⟨b, o, none⟩ = some (.int .i64 a.kind) ∧ w.cell? ⟨b, o + 1, none⟩ = some (.int .i64 a.fl) ∧ w.cell? ⟨b, o + 2, none⟩ = some (.int .i64 a.n) ∧ w.cell? ⟨b, o + 3, none⟩ = some (.string a.car) ∧ w.cell? ⟨b, o + 4, none⟩ = some (.int .i64 a.num) ∧ w.cell? ⟨b, o + 5, none⟩ = some (.int .i64 a.day) ∧ w.cell? ⟨b, o + 6, none⟩ = some (.int .u8 a.cls) :=
  ⟨h 0 _ rfl, h 1 _ rfl, h 2 _ rfl, h 3 _ rfl, h 4 _ rfl, h 5 _ rfl, h 6 _ rfl⟩
theorem kOf_cls {rs : List Fl.R} {a : A} : (kOf rs a).cls = a.cls := by
  unfold kOf; split <;> rfl
theorem kOf_day {rs : List Fl.R} {a : A} : (kOf rs a).day = a.day := by
  unfold kOf; split <;> rfl
theorem sell_party {rs : List Fl.R} {l : List (K × Int)} {k : K} {n : Int} (h : sellE rs l k n = 0) : 1 ≤ n ∧ n ≤ 9 := by
  unfold sellE sellE' at h
  split at h
  · rename_i hp
    simpa [party, Fl.inI] using hp
  · cases h
/-- One step of the loop of sales. -/
theorem sell_loop {w w4 : World} {Bt p t m : Nat} {rs' : List Fl.R} {l : List (K × Int)} {k : K} {n : Int} (h : PutIs w Bt p t m rs' l k n w4) : Some w4 Bt p t m rs' ∧ Rw.Fr (· = m) w w4 := by
  obtain ⟨l', h1, _, h3⟩ := h
  exact ⟨⟨l', h1⟩, h3⟩
end St
set_option maxHeartbeats 4000000 in
set_option maxRecDepth 20000 in
theorem apart_walk (W : World) (A : Option Addr) (rs : List Fl.R) (cap : Nat) (hF : Fl.Fls W W.heap.size A rs ∧ rs.length ≤ 9223372036854775807) (A1 : Option Addr) (sc : List St.A) (cap1 : Nat) (hS : Fm.Acts W W.heap.size A1 sc ∧ sc.length ≤ 9223372036854775807 ∧ ∀ a ∈ sc, St.OkA a) (a : St.A) (ha : St.OkA a) (o : St.L) (ho : St.OkL o) (c : Int) (hc : (Lit.int .u8 c).wf = true) :
    Calls Tryz.prog 7 #[.slice A rs.length cap, .slice A1 sc.length cap1, St.av a, St.lv o, .int .u8 c] W fun e w' => e = .returned (.bool true) ∧ Below W.heap.size W w' := by
  obtain ⟨hF, hl⟩ := hF
  obtain ⟨hS, hls, hoks⟩ := hS
  obtain ⟨c0, c1⟩ := Fm.u8b hc
  have HF := Lib.hid hF
  have HSc := Lib.hid hS
  have HOks := Lib.hid hoks
  obtain ⟨w1, ew1⟩ : ∃ x, x = (W.alloc (.cells (St.acs a).toArray 36)).alloc (.cells #[.string o.car, .int .i64 o.num, .int .i64 o.day] 34) := ⟨_, rfl⟩
  have hz0 : (W.alloc (.cells (St.acs a).toArray 36)).heap.size = W.heap.size + 1 := by simp
  have hb1 : Below W.heap.size W w1 := by rw [ew1]; exact ((Below.refl _ _).alloc (Nat.le_refl _) _).alloc (by simp) _
  have hz1 : w1.heap.size = W.heap.size + 2 := by rw [ew1]; simp
  have KA : Rw.Blk w1 W.heap.size 36 (St.acs a) := by
    rw [ew1]
    have k : Rw.Blk (W.alloc (.cells (St.acs a).toArray 36)) W.heap.size 36 (St.acs a) := heap_alloc_new W _
    exact k.below' ((Below.refl _ _).alloc (Nat.le_refl _) _)
  have KO : Rw.Blk w1 (W.heap.size + 1) 34 [.string o.car, .int .i64 o.num, .int .i64 o.day] := by
    rw [ew1]
    have := heap_alloc_new (W.alloc (.cells (St.acs a).toArray 36)) (.cells #[.string o.car, .int .i64 o.num, .int .i64 o.day] 34)
    rw [hz0] at this
    exact this
  have HB1 := Lib.hid hb1
  have HKA := Lib.hid KA
  have HKO := Lib.hid KO
  have HOkA := Lib.hid ha
  have HOkO := Lib.hid ho
  have HAw := Lib.hid (awake_any w1)
  clear hF hS hoks hb1 KA KO ha ho hc
  by_cases hgood : St.Good rs
  · have HBg := Lib.hid (fun w (hb : Below W.heap.size W w) => begun_ok A rs cap W.heap.size w (HF.out.below hb (Nat.le_refl _)) hb.size hgood)
    have hrl := hgood.1
    clear hgood
    by_cases hlen : 200 < sc.length
    · have hd : decide (200 < (sc.length : Int)) = true := by simp; omega
      have hd2 : decide (200 < sc.length) = true := by simp; omega
      rw [ew1] at HAw HB1 HKA HKO hz1
      unfold St.av St.lv
      unfold St.acs at HAw HB1 HKA HKO hz1
      clear ew1
      go_enter Tryz.func7, Tryz.ntmps7
      go_wp2_with (first
        | (go_at_call 8; refine HAw.out.mono ?_; rintro e w2 ⟨rfl, hb2⟩; have HB2 := Lib.hid (HB1.out.trans (hb2.mono HB1.out.size)); have HKA2 := Lib.hid (HKA.out.below' hb2); have HKO2 := Lib.hid (HKO.out.below' hb2))
        | (go_at_call 9; refine (HBg.out _ HB2.out).mono ?_; rintro e w3 ⟨Bt, p, t, m, rs', rfl, hA, hpr, hpp, hmm, hb3⟩; have HB3 := Lib.hid (HB2.out.trans (hb3.mono HB2.out.size)); have HA3 := Lib.hid hA; have HPr := Lib.hid hpr; have HKA3 := Lib.hid (HKA2.out.below' hb3); have HKO3 := Lib.hid (HKO2.out.below' hb3); have hs23 := hb3.size; have hs2 := HB2.out.size; have hWm : W.heap.size ≤ m := Nat.le_trans hs2 hmm; have hA0 := HKA2.out.lt; have hO0 := HKO2.out.lt; clear hA hpr hb3))
      go_ret
      exact ⟨rfl, HB3.out⟩
    · have hd : decide (200 < (sc.length : Int)) = false := by simp; omega
      have hd2 : decide (200 < sc.length) = false := by simp; omega
      rw [ew1] at HAw HB1 HKA HKO hz1
      unfold St.av St.lv
      unfold St.acs at HAw HB1 HKA HKO hz1
      clear ew1
      go_enter Tryz.func7, Tryz.ntmps7
      go_wp2_with (first
        | (go_at_call 8; refine HAw.out.mono ?_; rintro e w2 ⟨rfl, hb2⟩; have HB2 := Lib.hid (HB1.out.trans (hb2.mono HB1.out.size)); have HKA2 := Lib.hid (HKA.out.below' hb2); have HKO2 := Lib.hid (HKO.out.below' hb2))
        | (go_at_call 9; refine (HBg.out _ HB2.out).mono ?_; rintro e w3 ⟨Bt, p, t, m, rs', rfl, hA, hpr, hpp, hmm, hb3⟩; have HB3 := Lib.hid (HB2.out.trans (hb3.mono HB2.out.size)); have HA3 := Lib.hid hA; have HPr := Lib.hid hpr; have HKA3 := Lib.hid (HKA2.out.below' hb3); have HKO3 := Lib.hid (HKO2.out.below' hb3); have hs23 := hb3.size; have hs2 := HB2.out.size; have hWm : W.heap.size ≤ m := Nat.le_trans hs2 hmm; have hA0 := HKA2.out.lt; have hO0 := HKO2.out.lt; clear hA hpr hb3))
      have hWz : W.heap.size + 1 < m := by omega
      have HI : Hid (St.Some w3 Bt p t m rs') := ⟨[], HA3.out⟩
      have hln : sc.length ≤ 200 := by omega
      clear HKA HKO HKA2 HKO2 HA3 HB1 HB2 hb2 HAw HBg
      go_loopw [13] (fun i wr => ∃ k : Nat, k ≤ sc.length ∧ i = .int .i64 k ∧ Hid (St.Some wr Bt p t m rs') ∧ Hid (Below W.heap.size W wr) ∧ Hid (Rw.Blk wr W.heap.size 36 (St.acs a)) ∧ Hid (Rw.Blk wr (W.heap.size + 1) 34 [.string o.car, .int .i64 o.num, .int .i64 o.day])) (fun i _ => sc.length - (intOf i).toNat)
      case atStart => exact ⟨0, by omega, rfl, HI.out, HB3.out, HKA3.out, HKO3.out⟩
      case round =>
        obtain ⟨wx, ewx⟩ : ∃ x, x = wr := ⟨_, rfl⟩
        subst ewx
        obtain ⟨k, hk, rfl, HIx, HBx, HKAx, HKOx⟩ := hrel
        by_cases hlt : k < sc.length
        · obtain ⟨b, off, hA1, hbB, hrow⟩ := HSc.out (by omega)
          have HR : Hid (∀ w', Below W.heap.size W w' → w'.rangeAt b (off + k * 7) (St.acs sc[k])) := fun w' hb j v hv => (hb.cell (p := ⟨b, _, none⟩) hbB).trans (hrow k hlt j v hv)
          have HOk := Lib.hid (HOks.out _ (List.getElem_mem hlt))
          have hbx := HBx.out.size
          generalize sc[k] = x at *
          subst hA1
          clear hrow
          obtain ⟨q0, q1, q2, q3, q4, q5, q6⟩ := St.acts_cells (HR.out wx HBx.out)
          by_cases hkd : x.kind = 0
          · have HS : Hid (∀ w', Below W.heap.size W w' → w'.cell? ⟨b, off + k * 7, none⟩ = some (.int .i64 0) ∧ w'.cell? ⟨b, off + k * 7 + 1, none⟩ = some (.int .i64 x.fl) ∧ w'.cell? ⟨b, off + k * 7 + 2, none⟩ = some (.int .i64 x.n) ∧ w'.cell? ⟨b, off + k * 7 + 3, none⟩ = some (.string x.car) ∧ w'.cell? ⟨b, off + k * 7 + 4, none⟩ = some (.int .i64 x.num) ∧ w'.cell? ⟨b, off + k * 7 + 5, none⟩ = some (.int .i64 x.day) ∧ w'.cell? ⟨b, off + k * 7 + 6, none⟩ = some (.int .u8 x.cls)) := fun w' hb => by
              obtain ⟨q0, q1, q2, q3, q4, q5, q6⟩ := St.acts_cells (HR.out w' hb)
              rw [hkd] at q0
              exact ⟨q0, q1, q2, q3, q4, q5, q6⟩
            rw [hkd] at q0
            obtain ⟨l0, hA0⟩ := HIx.out
            have HAx := Lib.hid hA0
            have HLg := Lib.hid (fun w (hb : Below W.heap.size W w) => leg_any A rs cap W.heap.size x w (HF.out.below hb (Nat.le_refl _)) hb.size (by omega) HOk.out)
            have HOkK := Lib.hid (St.kOf_ok (rs := rs) HOk.out HF.out.wf)
            have hcl := St.kOf_cls (rs := rs) (a := x)
            obtain ⟨kk, hkk⟩ : ∃ kk, kk = St.kOf rs x := ⟨_, rfl⟩
            rw [← hkk] at HLg HOkK hcl
            have HSe := Lib.hid (fun w (hb : Below wx.heap.size wx w) => sell_any Bt p t m rs' l0 kk x.n w (HAx.out.kept hb) HOkK.out HOk.out.n0 HOk.out.n1)
            rw [hcl] at HSe
            generalize St.sellE rs' l0 kk x.n = cd at *
            generalize St.sellA rs' l0 kk x.n = af at *
            unfold St.av at HLg
            rw [hkd] at HLg
            obtain ⟨xk, xf, xn, xc, xm, xd, xl⟩ := x
            simp only at hkd HLg HSe HS q0 q1 q2 q3 q4 q5 q6 hcl
            subst hkd
            clear hA0 HR HOk hkk hcl
            go_wp2
            go_region_held3 (fun w' => w'.cell? ⟨b, off + k * 7, none⟩ = some (.int .i64 0) ∧ w'.cell? ⟨b, off + k * 7 + 1, none⟩ = some (.int .i64 xf) ∧ w'.cell? ⟨b, off + k * 7 + 2, none⟩ = some (.int .i64 xn) ∧ w'.cell? ⟨b, off + k * 7 + 3, none⟩ = some (.string xc) ∧ w'.cell? ⟨b, off + k * 7 + 4, none⟩ = some (.int .i64 xm) ∧ w'.cell? ⟨b, off + k * 7 + 5, none⟩ = some (.int .i64 xd) ∧ w'.cell? ⟨b, off + k * 7 + 6, none⟩ = some (.int .u8 xl)) (first | exact HS.out _ HBx.out | exact HS.out _ HBx.out.drew | exact HS.out _ HB5.out | exact HS.out _ HB6.out) (first
              | (go_at_call 17; refine (HLg.out _ HBx.out.drew).mono ?_; rintro e w5 ⟨rfl, hb5⟩; have HBx5 : Hid (Below wx.heap.size wx w5) := (Below.refl _ _).drew.trans hb5; have HB5 := Lib.hid (HBx.out.trans (HBx5.out.mono hbx)))
              | (go_at_call 19; refine (HSe.out _ HBx5.out).mono ?_; rintro e w6 ⟨rfl, hP6⟩; obtain ⟨hI6, hf6⟩ := St.sell_loop hP6; have HI6 := Lib.hid hI6; have HF6 := Lib.hid hf6; have HB6 : Hid (Below W.heap.size W w6) := HB5.out.trans (hf6.below (B := W.heap.size) HB5.out.size (fun k hk => by have : k = m := hk; omega)); clear hI6 hf6 hP6))
            go_wp2
            have HKA6 : Hid (Rw.Blk w6 W.heap.size 36 (St.acs a)) := (HKAx.out.below' HBx5.out).kept (HF6.out.block _ (HKAx.out.below' HBx5.out).lt (fun e => by have e : W.heap.size = m := e; omega))
            have HKO6 : Hid (Rw.Blk w6 (W.heap.size + 1) 34 [.string o.car, .int .i64 o.num, .int .i64 o.day]) := (HKOx.out.below' HBx5.out).kept (HF6.out.block _ (HKOx.out.below' HBx5.out).lt (fun e => by have e : W.heap.size + 1 = m := e; omega))
            go_roundw
            case rel => exact ⟨k + 1, by omega, by go_num, HI6.out, HB6.out, HKA6.out, HKO6.out⟩
            case measure => simp [intOf]; omega
          · have hkd2 : (x.kind == 0) = false := by simp [hkd]
            clear hkd
            go_wp2
            go_roundw
            case rel => exact ⟨k + 1, by omega, by go_num, HIx.out, HBx.out, HKAx.out, HKOx.out⟩
            case measure => simp [intOf]; omega
        · obtain ⟨l0, hA0⟩ := HIx.out
          have HAx := Lib.hid hA0
          have hbx := HBx.out.size
          have HCo := Lib.hid (copy_any Bt p t m rs' l0 wx hA0)
          have HLg := Lib.hid (fun w (hb : Below W.heap.size W w) => leg_any A rs cap W.heap.size a w (HF.out.below hb (Nat.le_refl _)) hb.size (by omega) HOkA.out)
          have HOkx := Lib.hid (St.kOf_ok (rs := rs) HOkA.out HF.out.wf)
          have hcl := St.kOf_cls (rs := rs) (a := a)
          obtain ⟨kx, hkx⟩ : ∃ kk, kk = St.kOf rs a := ⟨_, rfl⟩
          rw [← hkx] at HLg HOkx hcl
          have HOko : Hid (St.OkK ⟨o.car, o.num, o.day, c⟩) := ⟨⟨HOkO.out.car, HOkO.out.n0, HOkO.out.n1, HOkO.out.d0, HOkO.out.d1⟩, c0, c1⟩
          have hbd := hA0.bound kx
          obtain ⟨so, hso⟩ : ∃ x, x = St.sold l0 kx := ⟨_, rfl⟩
          obtain ⟨be, hbe⟩ : ∃ x, x = St.sold l0 ⟨o.car, o.num, o.day, c⟩ := ⟨_, rfl⟩
          obtain ⟨cd, hcd⟩ : ∃ x, x = St.sellE rs' l0 kx a.n := ⟨_, rfl⟩
          obtain ⟨af, haf⟩ : ∃ x, x = St.sellA rs' l0 kx a.n := ⟨_, rfl⟩
          have HSO0 : Hid (St.sold l0 kx = so) := hso.symm
          have HBE : Hid (St.sold l0 ⟨o.car, o.num, o.day, c⟩ = be) := hbe.symm
          have HCD : Hid (St.sellE rs' l0 kx a.n = cd) := hcd.symm
          have HAF : Hid (St.sellA rs' l0 kx a.n = af) := haf.symm
          have haf2 : af = if cd = 0 then so + a.n else so := by rw [haf, hcd, hso]; rfl
          have hpar : cd = 0 → 1 ≤ a.n ∧ a.n ≤ 9 := fun h => St.sell_party (hcd.symm.trans h)
          rw [← hso] at hbd
          obtain ⟨hbd0, hbd1, hbd2⟩ := hbd
          obtain ⟨s1, hs1⟩ : ∃ x, x = if (⟨o.car, o.num, o.day, c⟩ : St.K) = kx then af else be := ⟨_, rfl⟩
          have HS1 : Hid ((if (⟨o.car, o.num, o.day, c⟩ : St.K) = kx then af else St.sold l0 ⟨o.car, o.num, o.day, c⟩) = s1) := show _ = _ by rw [hs1, ← hbe]
          unfold St.av at HLg
          have hhi : so ≤ 400 := by omega
          clear hA0 hso hbe hcd haf hkx hbd1 hbd2
          by_cases hcd0 : cd = 0
          · obtain ⟨hn0, hn1⟩ := hpar hcd0
            rw [if_pos hcd0] at haf2
            subst hcd0 haf2
            have hwr : IntKind.i64.wrap (so + a.n) = so + a.n := IntWalk.i64_in _ (by omega)
            have hwr2 : (so + a.n != so + a.n) = false := by simp
            by_cases hko : (⟨o.car, o.num, o.day, c⟩ : St.K) = kx
            · rw [if_pos hko] at hs1
              have hbeso : be = so := by
                have h1 := HBE.out
                rw [hko] at h1
                exact h1.symm.trans HSO0.out
              have hfal : (s1 == be) = false := by
                rw [hs1, hbeso]
                simp
                omega
              have hcc : c = a.cls := by rw [← hcl, ← hko]
              have HQ1 : Hid (o.car = kx.car) := show _ = _ by rw [← hko]
              have HQ2 : Hid (o.num = kx.num) := show _ = _ by rw [← hko]
              have HQ3 : Hid (o.day = kx.day) := show _ = _ by rw [← hko]
              have x1 := Fl.str_eq HQ1.out
              have x2 : (o.num == kx.num) = true := by simp [HQ2.out]
              have x3 : (o.day == kx.day) = true := by simp [HQ3.out]
              have x4 : (c == a.cls) = true := by simp [hcc]
              clear hko hs1 hbeso hcc hpar
              go_wp2_with (first
                | (go_at_call 23; refine HCo.out.mono ?_; rintro e w7 ⟨p2, m2, rfl, hA7, hp2, hm2, hb7⟩; have HC7 := Lib.hid hA7; have HA7 := Lib.hid (HAx.out.kept hb7); have HB7 := Lib.hid (HBx.out.trans (hb7.mono hbx)); have HKA7 := Lib.hid (HKAx.out.below' hb7); have HKO7 := Lib.hid (HKOx.out.below' hb7); obtain ⟨q0, q1, q2, q3, q4, q5, q6⟩ := St.acts_cells HKA7.out.range; have hm27 := hA7.map.lt; clear hA7 hb7)
                | (go_at_call 17; refine (HLg.out _ HB7.out).mono ?_; rintro e w8 ⟨rfl, hb8⟩; have HC8 := Lib.hid (HC7.out.kept hb8); have HA8 := Lib.hid (HA7.out.kept hb8); have HB8 := Lib.hid (HB7.out.trans (hb8.mono HB7.out.size)); have HKA8 := Lib.hid (HKA7.out.below' hb8); have HKO8 := Lib.hid (HKO7.out.below' hb8); have hs78 := hb8.size; clear hb8 q0 q1 q2 q3 q4 q5 q6))
              obtain ⟨w9, ew9⟩ : ∃ y, y = w8.alloc (.cells #[.string kx.car, .int .i64 kx.num, .int .i64 kx.day] 34) := ⟨_, rfl⟩
              have hb9 : Below w8.heap.size w8 w9 := by rw [ew9]; exact (Below.refl _ _).alloc (Nat.le_refl _) _
              have HKX9 : Hid (Rw.Blk w9 w8.heap.size 34 [.string kx.car, .int .i64 kx.num, .int .i64 kx.day]) := by rw [ew9]; exact heap_alloc_new w8 _
              have HC9 := Lib.hid (HC8.out.kept hb9)
              have HA9 := Lib.hid (HA8.out.kept hb9)
              have HB9 := Lib.hid (HB8.out.trans (hb9.mono HB8.out.size))
              have HKA9 := Lib.hid (HKA8.out.below' hb9)
              have HKO9 := Lib.hid (HKO8.out.below' hb9)
              have HS : Hid (∀ w', Below w9.heap.size w9 w' → w'.cell? ⟨w8.heap.size, 0, none⟩ = some (.string kx.car) ∧ w'.cell? ⟨w8.heap.size, 1, none⟩ = some (.int .i64 kx.num) ∧ w'.cell? ⟨w8.heap.size, 2, none⟩ = some (.int .i64 kx.day) ∧ w'.cell? ⟨W.heap.size, 2, none⟩ = some (.int .i64 a.n) ∧ w'.cell? ⟨W.heap.size, 6, none⟩ = some (.int .u8 a.cls) ∧ w'.cell? ⟨W.heap.size + 1, 0, none⟩ = some (.string o.car) ∧ w'.cell? ⟨W.heap.size + 1, 1, none⟩ = some (.int .i64 o.num) ∧ w'.cell? ⟨W.heap.size + 1, 2, none⟩ = some (.int .i64 o.day)) := fun w' hb => by
                have k1 := HKX9.out.below' hb
                have k2 := HKA9.out.below' hb
                have k3 := HKO9.out.below' hb
                exact ⟨k1.cell 0, k1.cell 1, k1.cell 2, k2.cell 2, k2.cell 6, k3.cell 0, k3.cell 1, k3.cell 2⟩
              have HSx := Lib.hid (fun w (hb : Below w9.heap.size w9 w) => ssold_any Bt p t m rs' l0 kx w (HA9.out.kept hb) HOkx.out)
              have HSo := Lib.hid (fun w (hb : Below w9.heap.size w9 w) => ssold_any Bt p t m rs' l0 ⟨o.car, o.num, o.day, c⟩ w (HA9.out.kept hb) HOko.out)
              rw [hcl, HSO0.out] at HSx
              rw [HBE.out] at HSo
              simp only at HSo
              rw [← ew9]
              clear ew9 hb9 HKA8 HKO8 HC8 HA8
              go_region_held3 (fun w' => w'.cell? ⟨w8.heap.size, 0, none⟩ = some (.string kx.car) ∧ w'.cell? ⟨w8.heap.size, 1, none⟩ = some (.int .i64 kx.num) ∧ w'.cell? ⟨w8.heap.size, 2, none⟩ = some (.int .i64 kx.day) ∧ w'.cell? ⟨W.heap.size, 2, none⟩ = some (.int .i64 a.n) ∧ w'.cell? ⟨W.heap.size, 6, none⟩ = some (.int .u8 a.cls) ∧ w'.cell? ⟨W.heap.size + 1, 0, none⟩ = some (.string o.car) ∧ w'.cell? ⟨W.heap.size + 1, 1, none⟩ = some (.int .i64 o.num) ∧ w'.cell? ⟨W.heap.size + 1, 2, none⟩ = some (.int .i64 o.day)) (first | exact HS.out _ (Below.refl _ _) | exact HS.out _ (Below.refl _ _).drew | exact HS.out _ HB10.out | exact HS.out _ HB11.out) (first
                | (go_at_call 18; (with_reducible refine (HSo.out _ HB10.out).mono ?_); rintro e w11 ⟨rfl, hb11⟩; have HB11 : Hid (Below w9.heap.size w9 w11) := HB10.out.trans (hb11.mono HB10.out.size))
                | (go_at_call 18; (with_reducible refine (HSx.out _ (Below.refl _ _).drew).mono ?_); rintro e w10 ⟨rfl, hb10⟩; have HB10 : Hid (Below w9.heap.size w9 w10) := (Below.refl _ _).drew.trans hb10))
              obtain ⟨r0, r1, r2, r3, r4, r5, r6, r7⟩ := HS.out _ HB11.out
              have HKA11 := Lib.hid (HKA9.out.below' HB11.out)
              have HKO11 := Lib.hid (HKO9.out.below' HB11.out)
              have HKX11 := Lib.hid (HKX9.out.below' HB11.out)
              have HBW11 := Lib.hid (HB9.out.trans (HB11.out.mono HB9.out.size))
              have HSeC := Lib.hid (sell_any Bt p2 t m2 rs' l0 kx a.n w11 (HC9.out.kept HB11.out) HOkx.out HOkA.out.n0 HOkA.out.n1)
              rw [hcl, HCD.out, HAF.out] at HSeC
              have HA11 := Lib.hid (HA9.out.kept HB11.out)
              have hs9 := HB9.out.size
              have hX9 := HKX9.out.lt
              clear hb10 hb11 HS HSx HSo HKX9 HKA9 HKO9
              go_wp2_with (first
                | (go_at_call 19; refine HSeC.out.mono ?_; rintro e w12 ⟨rfl, l1, hA12, hPu, hf12⟩
                   have hne : ∀ g, g < wx.heap.size → g ≠ m2 := fun g hg e => by omega
                   have HC12 := Lib.hid hA12
                   have HA12 := Lib.hid (HA11.out.fr hf12 (fun k hk => by have : k = m2 := hk; rw [this]; exact hA12.lom) (fun e => hne p HAx.out.blk.lt e) (fun e => hne m HAx.out.map.lt e))
                   have HKA12 := Lib.hid (HKA11.out.kept (hf12.block _ HKA11.out.lt (fun e => hne _ HKAx.out.lt e)))
                   have HKO12 := Lib.hid (HKO11.out.kept (hf12.block _ HKO11.out.lt (fun e => hne _ HKOx.out.lt e)))
                   have HKX12 := Lib.hid (HKX11.out.kept (hf12.block _ HKX11.out.lt (fun e => by have e : w8.heap.size = m2 := e; omega)))
                   have HBW12 := Lib.hid (HBW11.out.trans (hf12.below (B := W.heap.size) HBW11.out.size (fun k hk => by have : k = m2 := hk; omega)))
                   have hx1 := (hPu kx).trans (if_pos rfl)
                   have ho1 : St.sold l1 ⟨o.car, o.num, o.day, c⟩ = s1 := by rw [hPu ⟨o.car, o.num, o.day, c⟩]; exact HS1.out
                   clear hA12 hPu hf12))
              have HS : Hid (∀ w', Below w12.heap.size w12 w' → w'.cell? ⟨w8.heap.size, 0, none⟩ = some (.string kx.car) ∧ w'.cell? ⟨w8.heap.size, 1, none⟩ = some (.int .i64 kx.num) ∧ w'.cell? ⟨w8.heap.size, 2, none⟩ = some (.int .i64 kx.day) ∧ w'.cell? ⟨W.heap.size, 2, none⟩ = some (.int .i64 a.n) ∧ w'.cell? ⟨W.heap.size, 6, none⟩ = some (.int .u8 a.cls) ∧ w'.cell? ⟨W.heap.size + 1, 0, none⟩ = some (.string o.car) ∧ w'.cell? ⟨W.heap.size + 1, 1, none⟩ = some (.int .i64 o.num) ∧ w'.cell? ⟨W.heap.size + 1, 2, none⟩ = some (.int .i64 o.day)) := fun w' hb => by
                have k1 := HKX12.out.below' hb
                have k2 := HKA12.out.below' hb
                have k3 := HKO12.out.below' hb
                exact ⟨k1.cell 0, k1.cell 1, k1.cell 2, k2.cell 2, k2.cell 6, k3.cell 0, k3.cell 1, k3.cell 2⟩
              have HSx := Lib.hid (fun w (hb : Below w12.heap.size w12 w) => ssold_any Bt p t m rs' l0 kx w (HA12.out.kept hb) HOkx.out)
              have HSc := Lib.hid (fun w (hb : Below w12.heap.size w12 w) => ssold_any Bt p2 t m2 rs' l1 kx w (HC12.out.kept hb) HOkx.out)
              have HSd := Lib.hid (fun w (hb : Below w12.heap.size w12 w) => ssold_any Bt p2 t m2 rs' l1 ⟨o.car, o.num, o.day, c⟩ w (HC12.out.kept hb) HOko.out)
              rw [hcl, HSO0.out] at HSx
              rw [hcl, hx1] at HSc
              rw [ho1] at HSd
              simp only at HSd
              clear hx1 ho1 HKA12 HKO12 HKX12 r0 r1 r2 r3 r4 r5 r6 r7
              go_region_held3 (fun w' => w'.cell? ⟨w8.heap.size, 0, none⟩ = some (.string kx.car) ∧ w'.cell? ⟨w8.heap.size, 1, none⟩ = some (.int .i64 kx.num) ∧ w'.cell? ⟨w8.heap.size, 2, none⟩ = some (.int .i64 kx.day) ∧ w'.cell? ⟨W.heap.size, 2, none⟩ = some (.int .i64 a.n) ∧ w'.cell? ⟨W.heap.size, 6, none⟩ = some (.int .u8 a.cls) ∧ w'.cell? ⟨W.heap.size + 1, 0, none⟩ = some (.string o.car) ∧ w'.cell? ⟨W.heap.size + 1, 1, none⟩ = some (.int .i64 o.num) ∧ w'.cell? ⟨W.heap.size + 1, 2, none⟩ = some (.int .i64 o.day)) (first | exact HS.out _ (Below.refl _ _) | exact HS.out _ (Below.refl _ _).drew | exact HS.out _ HB13.out | exact HS.out _ HB14.out) (first
                | (go_at_call 18; (with_reducible refine (HSx.out _ (Below.refl _ _).drew).mono ?_); rintro e w13 ⟨rfl, hb13⟩; have HB13 : Hid (Below w12.heap.size w12 w13) := (Below.refl _ _).drew.trans hb13)
                | (go_at_call 18; (with_reducible refine (HSc.out _ HB13.out).mono ?_); rintro e w14 ⟨rfl, hb14⟩; have HB14 : Hid (Below w12.heap.size w12 w14) := HB13.out.trans (hb14.mono HB13.out.size)))
              obtain ⟨r0, r1, r2, r3, r4, r5, r6, r7⟩ := HS.out _ HB14.out
              have HBWl := Lib.hid (HBW12.out.trans (HB14.out.mono HBW12.out.size))
              go_wp2_with (first
                | (go_at_call 18; refine (HSd.out _ HB14.out).mono ?_; rintro e w15 ⟨rfl, hb15⟩; obtain ⟨z0, z1, z2, z3, z4, z5, z6, z7⟩ := HS.out _ (HB14.out.trans (hb15.mono HB14.out.size))))
              go_ret
              exact ⟨rfl, HBWl.out.trans (hb15.mono HBWl.out.size)⟩
            · rw [if_neg hko] at hs1
              subst hs1
              clear hko hpar
              go_wp2_with (first
                | (go_at_call 23; refine HCo.out.mono ?_; rintro e w7 ⟨p2, m2, rfl, hA7, hp2, hm2, hb7⟩; have HC7 := Lib.hid hA7; have HA7 := Lib.hid (HAx.out.kept hb7); have HB7 := Lib.hid (HBx.out.trans (hb7.mono hbx)); have HKA7 := Lib.hid (HKAx.out.below' hb7); have HKO7 := Lib.hid (HKOx.out.below' hb7); obtain ⟨q0, q1, q2, q3, q4, q5, q6⟩ := St.acts_cells HKA7.out.range; have hm27 := hA7.map.lt; clear hA7 hb7)
                | (go_at_call 17; refine (HLg.out _ HB7.out).mono ?_; rintro e w8 ⟨rfl, hb8⟩; have HC8 := Lib.hid (HC7.out.kept hb8); have HA8 := Lib.hid (HA7.out.kept hb8); have HB8 := Lib.hid (HB7.out.trans (hb8.mono HB7.out.size)); have HKA8 := Lib.hid (HKA7.out.below' hb8); have HKO8 := Lib.hid (HKO7.out.below' hb8); have hs78 := hb8.size; clear hb8 q0 q1 q2 q3 q4 q5 q6))
              obtain ⟨w9, ew9⟩ : ∃ y, y = w8.alloc (.cells #[.string kx.car, .int .i64 kx.num, .int .i64 kx.day] 34) := ⟨_, rfl⟩
              have hb9 : Below w8.heap.size w8 w9 := by rw [ew9]; exact (Below.refl _ _).alloc (Nat.le_refl _) _
              have HKX9 : Hid (Rw.Blk w9 w8.heap.size 34 [.string kx.car, .int .i64 kx.num, .int .i64 kx.day]) := by rw [ew9]; exact heap_alloc_new w8 _
              have HC9 := Lib.hid (HC8.out.kept hb9)
              have HA9 := Lib.hid (HA8.out.kept hb9)
              have HB9 := Lib.hid (HB8.out.trans (hb9.mono HB8.out.size))
              have HKA9 := Lib.hid (HKA8.out.below' hb9)
              have HKO9 := Lib.hid (HKO8.out.below' hb9)
              have HS : Hid (∀ w', Below w9.heap.size w9 w' → w'.cell? ⟨w8.heap.size, 0, none⟩ = some (.string kx.car) ∧ w'.cell? ⟨w8.heap.size, 1, none⟩ = some (.int .i64 kx.num) ∧ w'.cell? ⟨w8.heap.size, 2, none⟩ = some (.int .i64 kx.day) ∧ w'.cell? ⟨W.heap.size, 2, none⟩ = some (.int .i64 a.n) ∧ w'.cell? ⟨W.heap.size, 6, none⟩ = some (.int .u8 a.cls) ∧ w'.cell? ⟨W.heap.size + 1, 0, none⟩ = some (.string o.car) ∧ w'.cell? ⟨W.heap.size + 1, 1, none⟩ = some (.int .i64 o.num) ∧ w'.cell? ⟨W.heap.size + 1, 2, none⟩ = some (.int .i64 o.day)) := fun w' hb => by
                have k1 := HKX9.out.below' hb
                have k2 := HKA9.out.below' hb
                have k3 := HKO9.out.below' hb
                exact ⟨k1.cell 0, k1.cell 1, k1.cell 2, k2.cell 2, k2.cell 6, k3.cell 0, k3.cell 1, k3.cell 2⟩
              have HSx := Lib.hid (fun w (hb : Below w9.heap.size w9 w) => ssold_any Bt p t m rs' l0 kx w (HA9.out.kept hb) HOkx.out)
              have HSo := Lib.hid (fun w (hb : Below w9.heap.size w9 w) => ssold_any Bt p t m rs' l0 ⟨o.car, o.num, o.day, c⟩ w (HA9.out.kept hb) HOko.out)
              rw [hcl, HSO0.out] at HSx
              rw [HBE.out] at HSo
              simp only at HSo
              rw [← ew9]
              clear ew9 hb9 HKA8 HKO8 HC8 HA8
              go_region_held3 (fun w' => w'.cell? ⟨w8.heap.size, 0, none⟩ = some (.string kx.car) ∧ w'.cell? ⟨w8.heap.size, 1, none⟩ = some (.int .i64 kx.num) ∧ w'.cell? ⟨w8.heap.size, 2, none⟩ = some (.int .i64 kx.day) ∧ w'.cell? ⟨W.heap.size, 2, none⟩ = some (.int .i64 a.n) ∧ w'.cell? ⟨W.heap.size, 6, none⟩ = some (.int .u8 a.cls) ∧ w'.cell? ⟨W.heap.size + 1, 0, none⟩ = some (.string o.car) ∧ w'.cell? ⟨W.heap.size + 1, 1, none⟩ = some (.int .i64 o.num) ∧ w'.cell? ⟨W.heap.size + 1, 2, none⟩ = some (.int .i64 o.day)) (first | exact HS.out _ (Below.refl _ _) | exact HS.out _ (Below.refl _ _).drew | exact HS.out _ HB10.out | exact HS.out _ HB11.out) (first
                | (go_at_call 18; (with_reducible refine (HSo.out _ HB10.out).mono ?_); rintro e w11 ⟨rfl, hb11⟩; have HB11 : Hid (Below w9.heap.size w9 w11) := HB10.out.trans (hb11.mono HB10.out.size))
                | (go_at_call 18; (with_reducible refine (HSx.out _ (Below.refl _ _).drew).mono ?_); rintro e w10 ⟨rfl, hb10⟩; have HB10 : Hid (Below w9.heap.size w9 w10) := (Below.refl _ _).drew.trans hb10))
              obtain ⟨r0, r1, r2, r3, r4, r5, r6, r7⟩ := HS.out _ HB11.out
              have HKA11 := Lib.hid (HKA9.out.below' HB11.out)
              have HKO11 := Lib.hid (HKO9.out.below' HB11.out)
              have HKX11 := Lib.hid (HKX9.out.below' HB11.out)
              have HBW11 := Lib.hid (HB9.out.trans (HB11.out.mono HB9.out.size))
              have HSeC := Lib.hid (sell_any Bt p2 t m2 rs' l0 kx a.n w11 (HC9.out.kept HB11.out) HOkx.out HOkA.out.n0 HOkA.out.n1)
              rw [hcl, HCD.out, HAF.out] at HSeC
              have HA11 := Lib.hid (HA9.out.kept HB11.out)
              have hs9 := HB9.out.size
              have hX9 := HKX9.out.lt
              clear hb10 hb11 HS HSx HSo HKX9 HKA9 HKO9
              go_wp2_with (first
                | (go_at_call 19; refine HSeC.out.mono ?_; rintro e w12 ⟨rfl, l1, hA12, hPu, hf12⟩
                   have hne : ∀ g, g < wx.heap.size → g ≠ m2 := fun g hg e => by omega
                   have HC12 := Lib.hid hA12
                   have HA12 := Lib.hid (HA11.out.fr hf12 (fun k hk => by have : k = m2 := hk; rw [this]; exact hA12.lom) (fun e => hne p HAx.out.blk.lt e) (fun e => hne m HAx.out.map.lt e))
                   have HKA12 := Lib.hid (HKA11.out.kept (hf12.block _ HKA11.out.lt (fun e => hne _ HKAx.out.lt e)))
                   have HKO12 := Lib.hid (HKO11.out.kept (hf12.block _ HKO11.out.lt (fun e => hne _ HKOx.out.lt e)))
                   have HKX12 := Lib.hid (HKX11.out.kept (hf12.block _ HKX11.out.lt (fun e => by have e : w8.heap.size = m2 := e; omega)))
                   have HBW12 := Lib.hid (HBW11.out.trans (hf12.below (B := W.heap.size) HBW11.out.size (fun k hk => by have : k = m2 := hk; omega)))
                   have hx1 := (hPu kx).trans (if_pos rfl)
                   have ho1 : St.sold l1 ⟨o.car, o.num, o.day, c⟩ = s1 := by rw [hPu ⟨o.car, o.num, o.day, c⟩]; exact HS1.out
                   clear hA12 hPu hf12))
              have HS : Hid (∀ w', Below w12.heap.size w12 w' → w'.cell? ⟨w8.heap.size, 0, none⟩ = some (.string kx.car) ∧ w'.cell? ⟨w8.heap.size, 1, none⟩ = some (.int .i64 kx.num) ∧ w'.cell? ⟨w8.heap.size, 2, none⟩ = some (.int .i64 kx.day) ∧ w'.cell? ⟨W.heap.size, 2, none⟩ = some (.int .i64 a.n) ∧ w'.cell? ⟨W.heap.size, 6, none⟩ = some (.int .u8 a.cls) ∧ w'.cell? ⟨W.heap.size + 1, 0, none⟩ = some (.string o.car) ∧ w'.cell? ⟨W.heap.size + 1, 1, none⟩ = some (.int .i64 o.num) ∧ w'.cell? ⟨W.heap.size + 1, 2, none⟩ = some (.int .i64 o.day)) := fun w' hb => by
                have k1 := HKX12.out.below' hb
                have k2 := HKA12.out.below' hb
                have k3 := HKO12.out.below' hb
                exact ⟨k1.cell 0, k1.cell 1, k1.cell 2, k2.cell 2, k2.cell 6, k3.cell 0, k3.cell 1, k3.cell 2⟩
              have HSx := Lib.hid (fun w (hb : Below w12.heap.size w12 w) => ssold_any Bt p t m rs' l0 kx w (HA12.out.kept hb) HOkx.out)
              have HSc := Lib.hid (fun w (hb : Below w12.heap.size w12 w) => ssold_any Bt p2 t m2 rs' l1 kx w (HC12.out.kept hb) HOkx.out)
              have HSd := Lib.hid (fun w (hb : Below w12.heap.size w12 w) => ssold_any Bt p2 t m2 rs' l1 ⟨o.car, o.num, o.day, c⟩ w (HC12.out.kept hb) HOko.out)
              rw [hcl, HSO0.out] at HSx
              rw [hcl, hx1] at HSc
              rw [ho1] at HSd
              simp only at HSd
              clear hx1 ho1 HKA12 HKO12 HKX12 r0 r1 r2 r3 r4 r5 r6 r7
              go_region_held3 (fun w' => w'.cell? ⟨w8.heap.size, 0, none⟩ = some (.string kx.car) ∧ w'.cell? ⟨w8.heap.size, 1, none⟩ = some (.int .i64 kx.num) ∧ w'.cell? ⟨w8.heap.size, 2, none⟩ = some (.int .i64 kx.day) ∧ w'.cell? ⟨W.heap.size, 2, none⟩ = some (.int .i64 a.n) ∧ w'.cell? ⟨W.heap.size, 6, none⟩ = some (.int .u8 a.cls) ∧ w'.cell? ⟨W.heap.size + 1, 0, none⟩ = some (.string o.car) ∧ w'.cell? ⟨W.heap.size + 1, 1, none⟩ = some (.int .i64 o.num) ∧ w'.cell? ⟨W.heap.size + 1, 2, none⟩ = some (.int .i64 o.day)) (first | exact HS.out _ (Below.refl _ _) | exact HS.out _ (Below.refl _ _).drew | exact HS.out _ HB13.out | exact HS.out _ HB14.out) (first
                | (go_at_call 18; (with_reducible refine (HSx.out _ (Below.refl _ _).drew).mono ?_); rintro e w13 ⟨rfl, hb13⟩; have HB13 : Hid (Below w12.heap.size w12 w13) := (Below.refl _ _).drew.trans hb13)
                | (go_at_call 18; (with_reducible refine (HSc.out _ HB13.out).mono ?_); rintro e w14 ⟨rfl, hb14⟩; have HB14 : Hid (Below w12.heap.size w12 w14) := HB13.out.trans (hb14.mono HB13.out.size)))
              obtain ⟨r0, r1, r2, r3, r4, r5, r6, r7⟩ := HS.out _ HB14.out
              have HBWl := Lib.hid (HBW12.out.trans (HB14.out.mono HBW12.out.size))
              go_wp2_with (first
                | (go_at_call 18; refine (HSd.out _ HB14.out).mono ?_; rintro e w15 ⟨rfl, hb15⟩; obtain ⟨z0, z1, z2, z3, z4, z5, z6, z7⟩ := HS.out _ (HB14.out.trans (hb15.mono HB14.out.size))))
              go_ret
              exact ⟨rfl, HBWl.out.trans (hb15.mono HBWl.out.size)⟩
          · rw [if_neg hcd0] at haf2
            have hne0 : (cd == 0) = false := by simp [hcd0]
            have hs2 : s1 = be := by
              rw [hs1]
              by_cases hko : (⟨o.car, o.num, o.day, c⟩ : St.K) = kx
              · rw [if_pos hko, haf2]
                have h1 := HBE.out
                rw [hko] at h1
                exact HSO0.out.symm.trans h1
              · rw [if_neg hko]
            subst hs2 haf2
            clear hcd0 hs1 hpar
            go_wp2_with (first
              | (go_at_call 23; refine HCo.out.mono ?_; rintro e w7 ⟨p2, m2, rfl, hA7, hp2, hm2, hb7⟩; have HC7 := Lib.hid hA7; have HA7 := Lib.hid (HAx.out.kept hb7); have HB7 := Lib.hid (HBx.out.trans (hb7.mono hbx)); have HKA7 := Lib.hid (HKAx.out.below' hb7); have HKO7 := Lib.hid (HKOx.out.below' hb7); obtain ⟨q0, q1, q2, q3, q4, q5, q6⟩ := St.acts_cells HKA7.out.range; have hm27 := hA7.map.lt; clear hA7 hb7)
              | (go_at_call 17; refine (HLg.out _ HB7.out).mono ?_; rintro e w8 ⟨rfl, hb8⟩; have HC8 := Lib.hid (HC7.out.kept hb8); have HA8 := Lib.hid (HA7.out.kept hb8); have HB8 := Lib.hid (HB7.out.trans (hb8.mono HB7.out.size)); have HKA8 := Lib.hid (HKA7.out.below' hb8); have HKO8 := Lib.hid (HKO7.out.below' hb8); have hs78 := hb8.size; clear hb8 q0 q1 q2 q3 q4 q5 q6))
            obtain ⟨w9, ew9⟩ : ∃ y, y = w8.alloc (.cells #[.string kx.car, .int .i64 kx.num, .int .i64 kx.day] 34) := ⟨_, rfl⟩
            have hb9 : Below w8.heap.size w8 w9 := by rw [ew9]; exact (Below.refl _ _).alloc (Nat.le_refl _) _
            have HKX9 : Hid (Rw.Blk w9 w8.heap.size 34 [.string kx.car, .int .i64 kx.num, .int .i64 kx.day]) := by rw [ew9]; exact heap_alloc_new w8 _
            have HC9 := Lib.hid (HC8.out.kept hb9)
            have HA9 := Lib.hid (HA8.out.kept hb9)
            have HB9 := Lib.hid (HB8.out.trans (hb9.mono HB8.out.size))
            have HKA9 := Lib.hid (HKA8.out.below' hb9)
            have HKO9 := Lib.hid (HKO8.out.below' hb9)
            have HS : Hid (∀ w', Below w9.heap.size w9 w' → w'.cell? ⟨w8.heap.size, 0, none⟩ = some (.string kx.car) ∧ w'.cell? ⟨w8.heap.size, 1, none⟩ = some (.int .i64 kx.num) ∧ w'.cell? ⟨w8.heap.size, 2, none⟩ = some (.int .i64 kx.day) ∧ w'.cell? ⟨W.heap.size, 2, none⟩ = some (.int .i64 a.n) ∧ w'.cell? ⟨W.heap.size, 6, none⟩ = some (.int .u8 a.cls) ∧ w'.cell? ⟨W.heap.size + 1, 0, none⟩ = some (.string o.car) ∧ w'.cell? ⟨W.heap.size + 1, 1, none⟩ = some (.int .i64 o.num) ∧ w'.cell? ⟨W.heap.size + 1, 2, none⟩ = some (.int .i64 o.day)) := fun w' hb => by
              have k1 := HKX9.out.below' hb
              have k2 := HKA9.out.below' hb
              have k3 := HKO9.out.below' hb
              exact ⟨k1.cell 0, k1.cell 1, k1.cell 2, k2.cell 2, k2.cell 6, k3.cell 0, k3.cell 1, k3.cell 2⟩
            have HSx := Lib.hid (fun w (hb : Below w9.heap.size w9 w) => ssold_any Bt p t m rs' l0 kx w (HA9.out.kept hb) HOkx.out)
            have HSo := Lib.hid (fun w (hb : Below w9.heap.size w9 w) => ssold_any Bt p t m rs' l0 ⟨o.car, o.num, o.day, c⟩ w (HA9.out.kept hb) HOko.out)
            rw [hcl, HSO0.out] at HSx
            rw [HBE.out] at HSo
            simp only at HSo
            rw [← ew9]
            clear ew9 hb9 HKA8 HKO8 HC8 HA8
            go_region_held3 (fun w' => w'.cell? ⟨w8.heap.size, 0, none⟩ = some (.string kx.car) ∧ w'.cell? ⟨w8.heap.size, 1, none⟩ = some (.int .i64 kx.num) ∧ w'.cell? ⟨w8.heap.size, 2, none⟩ = some (.int .i64 kx.day) ∧ w'.cell? ⟨W.heap.size, 2, none⟩ = some (.int .i64 a.n) ∧ w'.cell? ⟨W.heap.size, 6, none⟩ = some (.int .u8 a.cls) ∧ w'.cell? ⟨W.heap.size + 1, 0, none⟩ = some (.string o.car) ∧ w'.cell? ⟨W.heap.size + 1, 1, none⟩ = some (.int .i64 o.num) ∧ w'.cell? ⟨W.heap.size + 1, 2, none⟩ = some (.int .i64 o.day)) (first | exact HS.out _ (Below.refl _ _) | exact HS.out _ (Below.refl _ _).drew | exact HS.out _ HB10.out | exact HS.out _ HB11.out) (first
              | (go_at_call 18; (with_reducible refine (HSo.out _ HB10.out).mono ?_); rintro e w11 ⟨rfl, hb11⟩; have HB11 : Hid (Below w9.heap.size w9 w11) := HB10.out.trans (hb11.mono HB10.out.size))
              | (go_at_call 18; (with_reducible refine (HSx.out _ (Below.refl _ _).drew).mono ?_); rintro e w10 ⟨rfl, hb10⟩; have HB10 : Hid (Below w9.heap.size w9 w10) := (Below.refl _ _).drew.trans hb10))
            obtain ⟨r0, r1, r2, r3, r4, r5, r6, r7⟩ := HS.out _ HB11.out
            have HKA11 := Lib.hid (HKA9.out.below' HB11.out)
            have HKO11 := Lib.hid (HKO9.out.below' HB11.out)
            have HKX11 := Lib.hid (HKX9.out.below' HB11.out)
            have HBW11 := Lib.hid (HB9.out.trans (HB11.out.mono HB9.out.size))
            have HSeC := Lib.hid (sell_any Bt p2 t m2 rs' l0 kx a.n w11 (HC9.out.kept HB11.out) HOkx.out HOkA.out.n0 HOkA.out.n1)
            rw [hcl, HCD.out, HAF.out] at HSeC
            have HA11 := Lib.hid (HA9.out.kept HB11.out)
            have hs9 := HB9.out.size
            have hX9 := HKX9.out.lt
            clear hb10 hb11 HS HSx HSo HKX9 HKA9 HKO9
            go_wp2_with (first
              | (go_at_call 19; refine HSeC.out.mono ?_; rintro e w12 ⟨rfl, l1, hA12, hPu, hf12⟩
                 have hne : ∀ g, g < wx.heap.size → g ≠ m2 := fun g hg e => by omega
                 have HC12 := Lib.hid hA12
                 have HA12 := Lib.hid (HA11.out.fr hf12 (fun k hk => by have : k = m2 := hk; rw [this]; exact hA12.lom) (fun e => hne p HAx.out.blk.lt e) (fun e => hne m HAx.out.map.lt e))
                 have HKA12 := Lib.hid (HKA11.out.kept (hf12.block _ HKA11.out.lt (fun e => hne _ HKAx.out.lt e)))
                 have HKO12 := Lib.hid (HKO11.out.kept (hf12.block _ HKO11.out.lt (fun e => hne _ HKOx.out.lt e)))
                 have HKX12 := Lib.hid (HKX11.out.kept (hf12.block _ HKX11.out.lt (fun e => by have e : w8.heap.size = m2 := e; omega)))
                 have HBW12 := Lib.hid (HBW11.out.trans (hf12.below (B := W.heap.size) HBW11.out.size (fun k hk => by have : k = m2 := hk; omega)))
                 have hx1 := (hPu kx).trans (if_pos rfl)
                 have ho1 : St.sold l1 ⟨o.car, o.num, o.day, c⟩ = s1 := by rw [hPu ⟨o.car, o.num, o.day, c⟩]; exact HS1.out
                 clear hA12 hPu hf12))
            have HS : Hid (∀ w', Below w12.heap.size w12 w' → w'.cell? ⟨w8.heap.size, 0, none⟩ = some (.string kx.car) ∧ w'.cell? ⟨w8.heap.size, 1, none⟩ = some (.int .i64 kx.num) ∧ w'.cell? ⟨w8.heap.size, 2, none⟩ = some (.int .i64 kx.day) ∧ w'.cell? ⟨W.heap.size, 2, none⟩ = some (.int .i64 a.n) ∧ w'.cell? ⟨W.heap.size, 6, none⟩ = some (.int .u8 a.cls) ∧ w'.cell? ⟨W.heap.size + 1, 0, none⟩ = some (.string o.car) ∧ w'.cell? ⟨W.heap.size + 1, 1, none⟩ = some (.int .i64 o.num) ∧ w'.cell? ⟨W.heap.size + 1, 2, none⟩ = some (.int .i64 o.day)) := fun w' hb => by
              have k1 := HKX12.out.below' hb
              have k2 := HKA12.out.below' hb
              have k3 := HKO12.out.below' hb
              exact ⟨k1.cell 0, k1.cell 1, k1.cell 2, k2.cell 2, k2.cell 6, k3.cell 0, k3.cell 1, k3.cell 2⟩
            have HSx := Lib.hid (fun w (hb : Below w12.heap.size w12 w) => ssold_any Bt p t m rs' l0 kx w (HA12.out.kept hb) HOkx.out)
            have HSc := Lib.hid (fun w (hb : Below w12.heap.size w12 w) => ssold_any Bt p2 t m2 rs' l1 kx w (HC12.out.kept hb) HOkx.out)
            have HSd := Lib.hid (fun w (hb : Below w12.heap.size w12 w) => ssold_any Bt p2 t m2 rs' l1 ⟨o.car, o.num, o.day, c⟩ w (HC12.out.kept hb) HOko.out)
            rw [hcl, HSO0.out] at HSx
            rw [hcl, hx1] at HSc
            rw [ho1] at HSd
            simp only at HSd
            clear hx1 ho1 HKA12 HKO12 HKX12 r0 r1 r2 r3 r4 r5 r6 r7
            refine wp_region_noPanic ?_
            refine wp_region_held_drew (S := (fun w' => w'.cell? ⟨w8.heap.size, 0, none⟩ = some (.string kx.car) ∧ w'.cell? ⟨w8.heap.size, 1, none⟩ = some (.int .i64 kx.num) ∧ w'.cell? ⟨w8.heap.size, 2, none⟩ = some (.int .i64 kx.day) ∧ w'.cell? ⟨W.heap.size, 2, none⟩ = some (.int .i64 a.n) ∧ w'.cell? ⟨W.heap.size, 6, none⟩ = some (.int .u8 a.cls) ∧ w'.cell? ⟨W.heap.size + 1, 0, none⟩ = some (.string o.car) ∧ w'.cell? ⟨W.heap.size + 1, 1, none⟩ = some (.int .i64 o.num) ∧ w'.cell? ⟨W.heap.size + 1, 2, none⟩ = some (.int .i64 o.day))) (by kernel_rfl) (HS.out _ (Below.refl _ _).drew) (fun hHeld => ?_)
            refine wpAnyH_take (i := 0) (oi := ⟨some 86, _, _, _, _, _⟩) (v := ?_) rfl (by kernel_rfl) (by kernel_rfl) (by kernel_rfl) (fun _ _ _ h => h) (Or.inl ⟨by rfl, ?_⟩) (by assumption) ?_
            rotate_left
            · (intro w hSw; (try dsimp only at hSw); obtain ⟨r0, r1, r2, r3, r4, r5, r6, r7⟩ := hSw; go_simp <;> with_reducible rfl)
            try simp only [Act.put]
            try simp only [List.setIfInBounds_toArray]
            try simp only [List.set_cons_succ]
            try simp only [List.set_cons_zero]
            refine wpAnyH_take (i := 1) (oi := ⟨some 87, _, _, _, _, _⟩) (v := ?_) rfl (by kernel_rfl) (by kernel_rfl) (by kernel_rfl) (fun _ _ _ h => h) (Or.inl ⟨by rfl, ?_⟩) (by assumption) ?_
            rotate_left
            · (intro w hSw; (try dsimp only at hSw); obtain ⟨r0, r1, r2, r3, r4, r5, r6, r7⟩ := hSw; go_simp <;> with_reducible rfl)
            try simp only [Act.put]
            try simp only [List.setIfInBounds_toArray]
            try simp only [List.set_cons_succ]
            try simp only [List.set_cons_zero]
            refine wpAnyH_take (i := 2) (oi := ⟨some 88, _, _, _, _, _⟩) (v := ?_) rfl (by kernel_rfl) (by kernel_rfl) (by kernel_rfl) (fun _ _ _ h => h) (Or.inl ⟨by rfl, ?_⟩) (by assumption) ?_
            rotate_left
            · (intro w hSw; (try dsimp only at hSw); obtain ⟨r0, r1, r2, r3, r4, r5, r6, r7⟩ := hSw; go_simp <;> with_reducible rfl)
            try simp only [Act.put]
            try simp only [List.setIfInBounds_toArray]
            try simp only [List.set_cons_succ]
            try simp only [List.set_cons_zero]
            refine wpAnyH_take (i := 3) (oi := ⟨some 89, _, _, _, _, _⟩) (v := ?_) rfl (by kernel_rfl) (by kernel_rfl) (by kernel_rfl) (fun _ _ _ h => h) (Or.inl ⟨by rfl, ?_⟩) (by assumption) ?_
            rotate_left
            · (intro w hSw; (try dsimp only at hSw); obtain ⟨r0, r1, r2, r3, r4, r5, r6, r7⟩ := hSw; go_simp <;> with_reducible rfl)
            try simp only [Act.put]
            try simp only [List.setIfInBounds_toArray]
            try simp only [List.set_cons_succ]
            try simp only [List.set_cons_zero]
            refine wpAnyH_take (i := 5) (oi := ⟨some 91, _, _, _, _, _⟩) (v := ?_) rfl (by kernel_rfl) (by kernel_rfl) (by kernel_rfl) (fun _ _ _ h => h) (Or.inl ⟨by rfl, ?_⟩) (by assumption) ?_
            rotate_left
            · (intro w hSw; (try dsimp only at hSw); obtain ⟨r0, r1, r2, r3, r4, r5, r6, r7⟩ := hSw; go_simp <;> with_reducible rfl)
            try simp only [Act.put]
            try simp only [List.setIfInBounds_toArray]
            try simp only [List.set_cons_succ]
            try simp only [List.set_cons_zero]
            refine wpAnyH_ready (rs := [4]) (by kernel_rfl) (by simp) ?_
            refine AllReadyH.cons (o := ⟨some 90, _, _, _, _, _⟩) rfl (fun K hK => ?_) AllReadyH.nil
            go_simp
            go_at_call 18
            refine (HSx.out _ (Below.refl _ _).drew).mono ?_
            rintro e w13 ⟨rfl, hb13⟩
            have HB13 : Hid (Below w12.heap.size w12 w13) := (Below.refl _ _).drew.trans hb13
            refine hK.out _ _ ?_ (fun hHeld2 => ?_)
            · exact HS.out _ HB13.out
            clear hK K
            try simp only [Act.put]
            try simp only [List.setIfInBounds_toArray]
            try simp only [List.set_cons_succ]
            try simp only [List.set_cons_zero]
            refine wpAnyH_take (i := 6) (oi := ⟨some 92, _, _, _, _, _⟩) (v := ?_) rfl (by kernel_rfl) (by kernel_rfl) (by kernel_rfl) (fun _ _ _ h => h) (Or.inl ⟨by rfl, ?_⟩) (by assumption) ?_
            rotate_left
            · (intro w hSw; (try dsimp only at hSw); obtain ⟨r0, r1, r2, r3, r4, r5, r6, r7⟩ := hSw; go_simp <;> with_reducible rfl)
            try simp only [Act.put]
            try simp only [List.setIfInBounds_toArray]
            try simp only [List.set_cons_succ]
            try simp only [List.set_cons_zero]
            refine wpAnyH_take (i := 7) (oi := ⟨some 93, _, _, _, _, _⟩) (v := ?_) rfl (by kernel_rfl) (by kernel_rfl) (by kernel_rfl) (fun _ _ _ h => h) (Or.inl ⟨by rfl, ?_⟩) (by assumption) ?_
            rotate_left
            · (intro w hSw; (try dsimp only at hSw); obtain ⟨r0, r1, r2, r3, r4, r5, r6, r7⟩ := hSw; go_simp <;> with_reducible rfl)
            try simp only [Act.put]
            try simp only [List.setIfInBounds_toArray]
            try simp only [List.set_cons_succ]
            try simp only [List.set_cons_zero]
            refine wpAnyH_take (i := 8) (oi := ⟨some 94, _, _, _, _, _⟩) (v := ?_) rfl (by kernel_rfl) (by kernel_rfl) (by kernel_rfl) (fun _ _ _ h => h) (Or.inl ⟨by rfl, ?_⟩) (by assumption) ?_
            rotate_left
            · (intro w hSw; (try dsimp only at hSw); obtain ⟨r0, r1, r2, r3, r4, r5, r6, r7⟩ := hSw; go_simp <;> with_reducible rfl)
            try simp only [Act.put]
            try simp only [List.setIfInBounds_toArray]
            try simp only [List.set_cons_succ]
            try simp only [List.set_cons_zero]
            refine wpAnyH_take (i := 9) (oi := ⟨some 95, _, _, _, _, _⟩) (v := ?_) rfl (by kernel_rfl) (by kernel_rfl) (by kernel_rfl) (fun _ _ _ h => h) (Or.inl ⟨by rfl, ?_⟩) (by assumption) ?_
            rotate_left
            · (intro w hSw; (try dsimp only at hSw); obtain ⟨r0, r1, r2, r3, r4, r5, r6, r7⟩ := hSw; go_simp <;> with_reducible rfl)
            try simp only [Act.put]
            try simp only [List.setIfInBounds_toArray]
            try simp only [List.set_cons_succ]
            try simp only [List.set_cons_zero]
            refine wpAnyH_take (i := 10) (oi := ⟨some 96, _, _, _, _, _⟩) (v := ?_) rfl (by kernel_rfl) (by kernel_rfl) (by kernel_rfl) (fun _ _ _ h => h) (Or.inl ⟨by rfl, ?_⟩) (by assumption) ?_
            rotate_left
            · (intro w hSw; (try dsimp only at hSw); obtain ⟨r0, r1, r2, r3, r4, r5, r6, r7⟩ := hSw; go_simp <;> with_reducible rfl)
            try simp only [Act.put]
            try simp only [List.setIfInBounds_toArray]
            try simp only [List.set_cons_succ]
            try simp only [List.set_cons_zero]
            refine wpAnyH_take (i := 11) (oi := ⟨some 97, _, _, _, _, _⟩) (v := undef) rfl (by kernel_rfl) (by kernel_rfl) (by kernel_rfl) (fun _ _ _ h => h) (Or.inr ⟨by rfl, rfl⟩) (by assumption) ?_
            try simp only [Act.put]
            try simp only [List.setIfInBounds_toArray]
            try simp only [List.set_cons_succ]
            try simp only [List.set_cons_zero]
            refine wpAnyH_take (i := 12) (oi := ⟨some 98, _, _, _, _, _⟩) (v := undef) rfl (by kernel_rfl) (by kernel_rfl) (by kernel_rfl) (fun _ _ _ h => h) (Or.inr ⟨by rfl, rfl⟩) (by assumption) ?_
            try simp only [Act.put]
            try simp only [List.setIfInBounds_toArray]
            try simp only [List.set_cons_succ]
            try simp only [List.set_cons_zero]
            refine wpAnyH_take (i := 13) (oi := ⟨some 99, _, _, _, _, _⟩) (v := undef) rfl (by kernel_rfl) (by kernel_rfl) (by kernel_rfl) (fun _ _ _ h => h) (Or.inr ⟨by rfl, rfl⟩) (by assumption) ?_
            try simp only [Act.put]
            try simp only [List.setIfInBounds_toArray]
            try simp only [List.set_cons_succ]
            try simp only [List.set_cons_zero]
            refine wpAnyH_take (i := 14) (oi := ⟨some 100, _, _, _, _, _⟩) (v := undef) rfl (by kernel_rfl) (by kernel_rfl) (by kernel_rfl) (fun _ _ _ h => h) (Or.inr ⟨by rfl, rfl⟩) (by assumption) ?_
            try simp only [Act.put]
            try simp only [List.setIfInBounds_toArray]
            try simp only [List.set_cons_succ]
            try simp only [List.set_cons_zero]
            refine wpAnyH_take (i := 15) (oi := ⟨some 101, _, _, _, _, _⟩) (v := undef) rfl (by kernel_rfl) (by kernel_rfl) (by kernel_rfl) (fun _ _ _ h => h) (Or.inr ⟨by rfl, rfl⟩) (by assumption) ?_
            try simp only [Act.put]
            try simp only [List.setIfInBounds_toArray]
            try simp only [List.set_cons_succ]
            try simp only [List.set_cons_zero]
            refine wpAnyH_take (i := 16) (oi := ⟨some 102, _, _, _, _, _⟩) (v := undef) rfl (by kernel_rfl) (by kernel_rfl) (by kernel_rfl) (fun _ _ _ h => h) (Or.inr ⟨by rfl, rfl⟩) (by assumption) ?_
            try simp only [Act.put]
            try simp only [List.setIfInBounds_toArray]
            try simp only [List.set_cons_succ]
            try simp only [List.set_cons_zero]
            refine wpAnyH_take (i := 17) (oi := ⟨some 103, _, _, _, _, _⟩) (v := undef) rfl (by kernel_rfl) (by kernel_rfl) (by kernel_rfl) (fun _ _ _ h => h) (Or.inr ⟨by rfl, rfl⟩) (by assumption) ?_
            try simp only [Act.put]
            try simp only [List.setIfInBounds_toArray]
            try simp only [List.set_cons_succ]
            try simp only [List.set_cons_zero]
            refine wpAnyH_take (i := 18) (oi := ⟨some 104, _, _, _, _, _⟩) (v := undef) rfl (by kernel_rfl) (by kernel_rfl) (by kernel_rfl) (fun _ _ _ h => h) (Or.inr ⟨by rfl, rfl⟩) (by assumption) ?_
            try simp only [Act.put]
            try simp only [List.setIfInBounds_toArray]
            try simp only [List.set_cons_succ]
            try simp only [List.set_cons_zero]
            refine wpAnyH_take (i := 19) (oi := ⟨some 105, _, _, _, _, _⟩) (v := undef) rfl (by kernel_rfl) (by kernel_rfl) (by kernel_rfl) (fun _ _ _ h => h) (Or.inr ⟨by rfl, rfl⟩) (by assumption) ?_
            try simp only [Act.put]
            try simp only [List.setIfInBounds_toArray]
            try simp only [List.set_cons_succ]
            try simp only [List.set_cons_zero]
            refine wpAnyH_take (i := 20) (oi := ⟨some 106, _, _, _, _, _⟩) (v := undef) rfl (by kernel_rfl) (by kernel_rfl) (by kernel_rfl) (fun _ _ _ h => h) (Or.inr ⟨by rfl, rfl⟩) (by assumption) ?_
            try simp only [Act.put]
            try simp only [List.setIfInBounds_toArray]
            try simp only [List.set_cons_succ]
            try simp only [List.set_cons_zero]
            refine wpAnyH_take (i := 21) (oi := ⟨some 107, _, _, _, _, _⟩) (v := ?_) rfl (by kernel_rfl) (by kernel_rfl) (by kernel_rfl) (fun _ _ _ h => h) (Or.inl ⟨by rfl, ?_⟩) (by assumption) ?_
            rotate_left
            · (intro w hSw; (try dsimp only at hSw); obtain ⟨r0, r1, r2, r3, r4, r5, r6, r7⟩ := hSw; go_simp <;> with_reducible rfl)
            try simp only [Act.put]
            try simp only [List.setIfInBounds_toArray]
            try simp only [List.set_cons_succ]
            try simp only [List.set_cons_zero]
            refine wpAnyH_take (i := 22) (oi := ⟨some 108, _, _, _, _, _⟩) (v := ?_) rfl (by kernel_rfl) (by kernel_rfl) (by kernel_rfl) (fun _ _ _ h => h) (Or.inl ⟨by rfl, ?_⟩) (by assumption) ?_
            rotate_left
            · (intro w hSw; (try dsimp only at hSw); obtain ⟨r0, r1, r2, r3, r4, r5, r6, r7⟩ := hSw; go_simp <;> with_reducible rfl)
            try simp only [Act.put]
            try simp only [List.setIfInBounds_toArray]
            try simp only [List.set_cons_succ]
            try simp only [List.set_cons_zero]
            refine wpAnyH_done (by kernel_rfl) ?_ _
            refine NoPanic.normal ?_
            obtain ⟨r0, r1, r2, r3, r4, r5, r6, r7⟩ := HS.out _ HB13.out
            have HBWl := Lib.hid (HBW12.out.trans (HB13.out.mono HBW12.out.size))
            go_wp2_with (first
              | (go_at_call 18; refine (HSd.out _ HB13.out).mono ?_; rintro e w15 ⟨rfl, hb15⟩; obtain ⟨z0, z1, z2, z3, z4, z5, z6, z7⟩ := HS.out _ (HB13.out.trans (hb15.mono HB13.out.size))))
            go_ret
            exact ⟨rfl, HBWl.out.trans (hb15.mono HBWl.out.size)⟩
  · have HBg : Hid (∀ w, Below W.heap.size W w → Calls Tryz.prog 9 #[.slice A rs.length cap] w fun e w' => e = .returned (.tuple #[.pointer none, .bool false]) ∧ Below w.heap.size w w') := fun w hb => by
      rcases Nat.lt_or_ge 64 rs.length with h | h
      · exact begun_many A rs.length cap w h hl
      · exact begun_bad A rs cap W.heap.size w (HF.out.below hb (Nat.le_refl _)) hb.size h (fun e => hgood ⟨h, e⟩)
    clear hgood
    rw [ew1] at HAw HB1
    unfold St.av St.lv
    unfold St.acs at HAw HB1
    go_enter Tryz.func7, Tryz.ntmps7
    go_wp2_with (first
      | (go_at_call 8; refine HAw.out.mono ?_; rintro e w2 ⟨rfl, hb2⟩; have HB2 := Lib.hid (HB1.out.trans (hb2.mono HB1.out.size)))
      | (go_at_call 9; refine (HBg.out _ HB2.out).mono ?_; rintro e w3 ⟨rfl, hb3⟩; have HB3 := Lib.hid (HB2.out.trans (hb3.mono HB2.out.size))))
    go_ret
    exact ⟨rfl, HB3.out⟩
end Go.Proofs.YtmcekicaigbccaaGreat
