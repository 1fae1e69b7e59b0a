/- Contracts: check, Has. -/
import Derived.Test.YtfodabbmjggieaaGreatHdCab
namespace Go.Proofs.YtfodabbmjggieaaGreat
open Go.RowKit Go.WideMaps
set_option linter.unusedVariables false

namespace Hd
theorem hasC_some {fs : List Fl.F} {gs : List (Nat × Pl.P)} {k : K} {i : Nat} (h : cab fs gs.length k.car k.num = some i) (hi : i < gs.length) : hasC fs (gs.map Prod.snd) k = Pl.hasS gs[i].2 k.seat := by
  unfold hasC
  rw [List.length_map, h]
  simp [hi]
theorem hasC_none {fs : List Fl.F} {gs : List (Nat × Pl.P)} {k : K} (h : cab fs gs.length k.car k.num = none) : hasC fs (gs.map Prod.snd) k = false := by
  unfold hasC
  rw [List.length_map, h]
theorem chk_fly {fs : List Fl.F} {ps : List Pl.P} {k : K} (h : Fl.flies fs k.car k.num k.day = false) : chk fs ps k = 9 := by unfold chk; rw [h]; rfl
theorem chk_no {fs : List Fl.F} {ps : List Pl.P} {k : K} (h : Fl.flies fs k.car k.num k.day = true) (h2 : hasC fs ps k = false) : chk fs ps k = 15 := by unfold chk; rw [h, h2]; rfl
theorem chk_ok {fs : List Fl.F} {ps : List Pl.P} {k : K} (h : Fl.flies fs k.car k.num k.day = true) (h2 : hasC fs ps k = true) : chk fs ps k = 0 := by unfold chk; rw [h, h2]; rfl
theorem ret_int {a b : Int} (h : a = b) : Ending.returned (.int .i64 a) = .returned (.int .i64 b) := by rw [h]
end Hd
set_option maxHeartbeats 1000000 in
set_option maxRecDepth 20000 in
theorem hcheck_any (Bt p t m : Nat) (A : Option Addr) (cap : Nat) (rs : List Fl.R) (gs : List (Nat × Pl.P)) (l : List (Hd.K × Hd.H)) (k : Hd.K) (w : World) (h : Hd.At w Bt p t m A cap rs gs l) (hk : Hd.OkK k) :
    Calls Tryz.prog 30 #[.pointer (some ⟨p, 0, none⟩), .agg #[.string k.car, .int .i64 k.num, .int .i64 k.day], .agg #[.int .i64 k.row, .int .u8 k.ltr]] w fun e w' => e = .returned (.int .i64 (Hd.chk (rs.map Fl.R.f) (gs.map Prod.snd) k)) ∧ Below w.heap.size w w' := by
  have HFl := Lib.hid (fun W (hb : Below w.heap.size w W) => by
    obtain ⟨base, hT⟩ := (h.kept hb).env.env.tab
    exact tflies_any base t rs k.car k.num k.day W hT hk.leg.car hk.leg.n0 hk.leg.n1 (by have := h.few; omega))
  have HC := Lib.hid (fun W (hb : Below w.heap.size w W) => cabin_any Bt p t m A cap rs gs l k.leg W (h.kept hb) hk.leg)
  have HHas := Lib.hid (fun (i : Nat) (hi : i < gs.length) W (hb : Below w.heap.size w W) => by
    obtain ⟨base, hM⟩ := (h.kept hb).env.env.maps i hi
    exact has_any gs[i].2 k.seat base gs[i].1 W (h.pok _ (List.getElem_mem hi)).2 hM ⟨hk.r0, hk.r1, hk.c0, hk.c1⟩)
  have HP := Lib.hid h.blk
  have hpl := h.blk.lt
  clear h hk
  have HE9 := Lib.hid (Hd.chk_fly (fs := rs.map Fl.R.f) (ps := gs.map Prod.snd) (k := k))
  have HE15 := Lib.hid (Hd.chk_no (fs := rs.map Fl.R.f) (ps := gs.map Prod.snd) (k := k))
  have HE0 := Lib.hid (Hd.chk_ok (fs := rs.map Fl.R.f) (ps := gs.map Prod.snd) (k := k))
  have HN := Lib.hid (Hd.hasC_none (fs := rs.map Fl.R.f) (gs := gs) (k := k))
  have HSm := Lib.hid (fun i => Hd.hasC_some (fs := rs.map Fl.R.f) (gs := gs) (k := k) (i := i))
  have HPn := Lib.hid (Hd.cabP_none (fs := rs.map Fl.R.f) (gs := gs) (car := k.car) (num := k.num))
  have HPs := Lib.hid (fun i => Hd.cabP_some (fs := rs.map Fl.R.f) (gs := gs) (car := k.car) (num := k.num) (i := i))
  obtain ⟨car, num, day, row, ltr⟩ := k
  unfold Hd.K.leg at HC
  unfold Hd.K.seat Pl.sv at HHas
  unfold Hd.K.seat at HSm
  simp only at HFl HC HHas HE9 HE15 HE0 HN HSm HPn HPs ⊢
  generalize Hd.chk (rs.map Fl.R.f) (gs.map Prod.snd) ⟨car, num, day, row, ltr⟩ = res at *
  generalize Hd.hasC (rs.map Fl.R.f) (gs.map Prod.snd) ⟨car, num, day, row, ltr⟩ = hc at *
  cases hfl : Fl.flies (rs.map Fl.R.f) car num day with
  | false =>
    have HX := Lib.hid (HE9.out hfl)
    rw [hfl] at HFl
    clear HC HHas HE9 HE15 HE0 HN HSm HPn HPs hfl
    go_enter Tryz.func30, Tryz.ntmps30
    go_wp2_with (first
      | (refine Rw.wpList_box rfl 35 _ rfl [.string car, .int .i64 num, .int .i64 day] rfl ?_; intro w1 K1 b1 z1; have HZ1 := Lib.hid z1; clear z1)
      | (refine Rw.wpList_box rfl 37 _ rfl [.int .i64 row, .int .u8 ltr] rfl ?_; intro w2 K2 b2 z2; have HZ2 := Lib.hid z2; clear z2))
    have hb2 : Below w.heap.size w w2 := b1.trans (b2.mono b1.size)
    have HB2 := Lib.hid hb2
    have HK12 := Lib.hid (K1.below' b2)
    have HK2 := Lib.hid K2
    have HP2 := Lib.hid (HP.out.below' hb2)
    have HS : Hid (∀ w', Below w2.heap.size w2 w' → w'.cell? ⟨w.heap.size, 0, none⟩ = some (.string car) ∧ w'.cell? ⟨w.heap.size, 1, none⟩ = some (.int .i64 num) ∧ w'.cell? ⟨w.heap.size, 2, none⟩ = some (.int .i64 day) ∧ w'.cell? ⟨w1.heap.size, 0, none⟩ = some (.int .i64 row) ∧ w'.cell? ⟨w1.heap.size, 1, none⟩ = some (.int .u8 ltr) ∧ w'.cell? ⟨p, 0, none⟩ = some (.pointer (some ⟨t, 0, none⟩))) := fun w' hb => by
      have k1 := HK12.out.below' hb
      have k2 := HK2.out.below' hb
      exact ⟨k1.cell 0, k1.cell 1, k1.cell 2, k2.cell 0, k2.cell 1, (HP2.out.below' hb).cell 0⟩
    have HFl2 := Lib.hid (HFl.out w2.drew hb2.drew)
    clear K1 K2 b1 b2 hb2
    go_region_held3 (fun w' => w'.cell? ⟨w.heap.size, 0, none⟩ = some (.string car) ∧ w'.cell? ⟨w.heap.size, 1, none⟩ = some (.int .i64 num) ∧ w'.cell? ⟨w.heap.size, 2, none⟩ = some (.int .i64 day) ∧ w'.cell? ⟨w1.heap.size, 0, none⟩ = some (.int .i64 row) ∧ w'.cell? ⟨w1.heap.size, 1, none⟩ = some (.int .u8 ltr) ∧ w'.cell? ⟨p, 0, none⟩ = some (.pointer (some ⟨t, 0, none⟩))) (first | exact HS.out _ (Below.refl _ _) | exact HS.out _ (Below.refl _ _).drew | exact HS.out _ ((Below.refl _ _).drew.trans hb3)) (first
      | (go_at_call 49; refine HFl2.out.mono ?_; rintro e w3 ⟨rfl, hb3⟩))
    have hb23 : Below w2.heap.size w2 w3 := (Below.refl _ _).drew.trans hb3
    obtain ⟨c0, c1, c2, c3, c4, _⟩ := HS.out _ hb23
    have HB3 := Lib.hid (HB2.out.trans (hb23.mono HB2.out.size))
    clear HFl2
    go_wp2
    go_ret
    exact ⟨Hd.ret_int HX.out.symm, HB3.out⟩
  | true =>
    rw [hfl] at HFl
    cases hcab : Hd.cab (rs.map Fl.R.f) gs.length car num with
    | none =>
      have HX := Lib.hid (HE15.out hfl (HN.out hcab))
      rw [HPn.out hcab] at HC
      clear HHas HE9 HE15 HE0 HN HSm HPn HPs hfl hcab
      go_enter Tryz.func30, Tryz.ntmps30
      go_wp2_with (first
        | (refine Rw.wpList_box rfl 35 _ rfl [.string car, .int .i64 num, .int .i64 day] rfl ?_; intro w1 K1 b1 z1; have HZ1 := Lib.hid z1; clear z1)
        | (refine Rw.wpList_box rfl 37 _ rfl [.int .i64 row, .int .u8 ltr] rfl ?_; intro w2 K2 b2 z2; have HZ2 := Lib.hid z2; clear z2))
      have hb2 : Below w.heap.size w w2 := b1.trans (b2.mono b1.size)
      have HB2 := Lib.hid hb2
      have HK12 := Lib.hid (K1.below' b2)
      have HK2 := Lib.hid K2
      have HP2 := Lib.hid (HP.out.below' hb2)
      have HS : Hid (∀ w', Below w2.heap.size w2 w' → w'.cell? ⟨w.heap.size, 0, none⟩ = some (.string car) ∧ w'.cell? ⟨w.heap.size, 1, none⟩ = some (.int .i64 num) ∧ w'.cell? ⟨w.heap.size, 2, none⟩ = some (.int .i64 day) ∧ w'.cell? ⟨w1.heap.size, 0, none⟩ = some (.int .i64 row) ∧ w'.cell? ⟨w1.heap.size, 1, none⟩ = some (.int .u8 ltr) ∧ w'.cell? ⟨p, 0, none⟩ = some (.pointer (some ⟨t, 0, none⟩))) := fun w' hb => by
        have k1 := HK12.out.below' hb
        have k2 := HK2.out.below' hb
        exact ⟨k1.cell 0, k1.cell 1, k1.cell 2, k2.cell 0, k2.cell 1, (HP2.out.below' hb).cell 0⟩
      have HFl2 := Lib.hid (HFl.out w2.drew hb2.drew)
      clear K1 K2 b1 b2 hb2
      go_region_held3 (fun w' => w'.cell? ⟨w.heap.size, 0, none⟩ = some (.string car) ∧ w'.cell? ⟨w.heap.size, 1, none⟩ = some (.int .i64 num) ∧ w'.cell? ⟨w.heap.size, 2, none⟩ = some (.int .i64 day) ∧ w'.cell? ⟨w1.heap.size, 0, none⟩ = some (.int .i64 row) ∧ w'.cell? ⟨w1.heap.size, 1, none⟩ = some (.int .u8 ltr) ∧ w'.cell? ⟨p, 0, none⟩ = some (.pointer (some ⟨t, 0, none⟩))) (first | exact HS.out _ (Below.refl _ _) | exact HS.out _ (Below.refl _ _).drew | exact HS.out _ ((Below.refl _ _).drew.trans hb3)) (first
        | (go_at_call 49; refine HFl2.out.mono ?_; rintro e w3 ⟨rfl, hb3⟩))
      have hb23 : Below w2.heap.size w2 w3 := (Below.refl _ _).drew.trans hb3
      obtain ⟨c0, c1, c2, c3, c4, _⟩ := HS.out _ hb23
      have HB3 := Lib.hid (HB2.out.trans (hb23.mono HB2.out.size))
      clear HFl2
      have HC3 := Lib.hid (HC.out w3 HB3.out)
      go_wp2_with (first
        | (go_at_call 34; refine HC3.out.mono ?_; rintro e w4 ⟨rfl, hb4⟩; obtain ⟨d0, d1, d2, d3, d4, _⟩ := HS.out _ (hb23.trans (hb4.mono hb23.size)); have HB4 := Lib.hid (HB3.out.trans (hb4.mono HB3.out.size)); clear c0 c1 c2 c3 c4))
      go_ret
      exact ⟨Hd.ret_int HX.out.symm, HB4.out⟩
    | some i =>
      obtain ⟨hi, hP⟩ := HPs.out i hcab
      have HH := Lib.hid (HHas.out i hi)
      have HSi := Lib.hid (HSm.out i hcab hi)
      rw [hP] at HC
      generalize gs[i].1 = gi at *
      generalize gs[i].2 = pi at *
      cases hhs : Pl.hasS pi (row, ltr) with
      | false =>
        have HX := Lib.hid (HE15.out hfl (HSi.out.trans hhs))
        rw [hhs] at HH
        clear HHas HE9 HE15 HE0 HN HSm HPn HPs hfl hcab HSi hhs hP hi
        go_enter Tryz.func30, Tryz.ntmps30
        go_wp2_with (first
          | (refine Rw.wpList_box rfl 35 _ rfl [.string car, .int .i64 num, .int .i64 day] rfl ?_; intro w1 K1 b1 z1; have HZ1 := Lib.hid z1; clear z1)
          | (refine Rw.wpList_box rfl 37 _ rfl [.int .i64 row, .int .u8 ltr] rfl ?_; intro w2 K2 b2 z2; have HZ2 := Lib.hid z2; clear z2))
        have hb2 : Below w.heap.size w w2 := b1.trans (b2.mono b1.size)
        have HB2 := Lib.hid hb2
        have HK12 := Lib.hid (K1.below' b2)
        have HK2 := Lib.hid K2
        have HP2 := Lib.hid (HP.out.below' hb2)
        have HS : Hid (∀ w', Below w2.heap.size w2 w' → w'.cell? ⟨w.heap.size, 0, none⟩ = some (.string car) ∧ w'.cell? ⟨w.heap.size, 1, none⟩ = some (.int .i64 num) ∧ w'.cell? ⟨w.heap.size, 2, none⟩ = some (.int .i64 day) ∧ w'.cell? ⟨w1.heap.size, 0, none⟩ = some (.int .i64 row) ∧ w'.cell? ⟨w1.heap.size, 1, none⟩ = some (.int .u8 ltr) ∧ w'.cell? ⟨p, 0, none⟩ = some (.pointer (some ⟨t, 0, none⟩))) := fun w' hb => by
          have k1 := HK12.out.below' hb
          have k2 := HK2.out.below' hb
          exact ⟨k1.cell 0, k1.cell 1, k1.cell 2, k2.cell 0, k2.cell 1, (HP2.out.below' hb).cell 0⟩
        have HFl2 := Lib.hid (HFl.out w2.drew hb2.drew)
        clear K1 K2 b1 b2 hb2
        go_region_held3 (fun w' => w'.cell? ⟨w.heap.size, 0, none⟩ = some (.string car) ∧ w'.cell? ⟨w.heap.size, 1, none⟩ = some (.int .i64 num) ∧ w'.cell? ⟨w.heap.size, 2, none⟩ = some (.int .i64 day) ∧ w'.cell? ⟨w1.heap.size, 0, none⟩ = some (.int .i64 row) ∧ w'.cell? ⟨w1.heap.size, 1, none⟩ = some (.int .u8 ltr) ∧ w'.cell? ⟨p, 0, none⟩ = some (.pointer (some ⟨t, 0, none⟩))) (first | exact HS.out _ (Below.refl _ _) | exact HS.out _ (Below.refl _ _).drew | exact HS.out _ ((Below.refl _ _).drew.trans hb3)) (first
          | (go_at_call 49; refine HFl2.out.mono ?_; rintro e w3 ⟨rfl, hb3⟩))
        have hb23 : Below w2.heap.size w2 w3 := (Below.refl _ _).drew.trans hb3
        obtain ⟨c0, c1, c2, c3, c4, _⟩ := HS.out _ hb23
        have HB3 := Lib.hid (HB2.out.trans (hb23.mono HB2.out.size))
        clear HFl2
        have HC3 := Lib.hid (HC.out w3 HB3.out)
        go_wp2_with (first
          | (go_at_call 34; refine HC3.out.mono ?_; rintro e w4 ⟨rfl, hb4⟩; obtain ⟨d0, d1, d2, d3, d4, _⟩ := HS.out _ (hb23.trans (hb4.mono hb23.size)); have HB4 := Lib.hid (HB3.out.trans (hb4.mono HB3.out.size)); clear c0 c1 c2 c3 c4; have HH4 := Lib.hid (HH.out w4 HB4.out))
          | (go_at_call 50; refine HH4.out.mono ?_; rintro e w5 ⟨rfl, hb5⟩))
        go_ret
        exact ⟨Hd.ret_int HX.out.symm, HB4.out.trans (hb5.mono HB4.out.size)⟩
      | true =>
        have HX := Lib.hid (HE0.out hfl (HSi.out.trans hhs))
        rw [hhs] at HH
        clear HHas HE9 HE15 HE0 HN HSm HPn HPs hfl hcab HSi hhs hP hi
        go_enter Tryz.func30, Tryz.ntmps30
        go_wp2_with (first
          | (refine Rw.wpList_box rfl 35 _ rfl [.string car, .int .i64 num, .int .i64 day] rfl ?_; intro w1 K1 b1 z1; have HZ1 := Lib.hid z1; clear z1)
          | (refine Rw.wpList_box rfl 37 _ rfl [.int .i64 row, .int .u8 ltr] rfl ?_; intro w2 K2 b2 z2; have HZ2 := Lib.hid z2; clear z2))
        have hb2 : Below w.heap.size w w2 := b1.trans (b2.mono b1.size)
        have HB2 := Lib.hid hb2
        have HK12 := Lib.hid (K1.below' b2)
        have HK2 := Lib.hid K2
        have HP2 := Lib.hid (HP.out.below' hb2)
        have HS : Hid (∀ w', Below w2.heap.size w2 w' → w'.cell? ⟨w.heap.size, 0, none⟩ = some (.string car) ∧ w'.cell? ⟨w.heap.size, 1, none⟩ = some (.int .i64 num) ∧ w'.cell? ⟨w.heap.size, 2, none⟩ = some (.int .i64 day) ∧ w'.cell? ⟨w1.heap.size, 0, none⟩ = some (.int .i64 row) ∧ w'.cell? ⟨w1.heap.size, 1, none⟩ = some (.int .u8 ltr) ∧ w'.cell? ⟨p, 0, none⟩ = some (.pointer (some ⟨t, 0, none⟩))) := fun w' hb => by
          have k1 := HK12.out.below' hb
          have k2 := HK2.out.below' hb
          exact ⟨k1.cell 0, k1.cell 1, k1.cell 2, k2.cell 0, k2.cell 1, (HP2.out.below' hb).cell 0⟩
        have HFl2 := Lib.hid (HFl.out w2.drew hb2.drew)
        clear K1 K2 b1 b2 hb2
        go_region_held3 (fun w' => w'.cell? ⟨w.heap.size, 0, none⟩ = some (.string car) ∧ w'.cell? ⟨w.heap.size, 1, none⟩ = some (.int .i64 num) ∧ w'.cell? ⟨w.heap.size, 2, none⟩ = some (.int .i64 day) ∧ w'.cell? ⟨w1.heap.size, 0, none⟩ = some (.int .i64 row) ∧ w'.cell? ⟨w1.heap.size, 1, none⟩ = some (.int .u8 ltr) ∧ w'.cell? ⟨p, 0, none⟩ = some (.pointer (some ⟨t, 0, none⟩))) (first | exact HS.out _ (Below.refl _ _) | exact HS.out _ (Below.refl _ _).drew | exact HS.out _ ((Below.refl _ _).drew.trans hb3)) (first
          | (go_at_call 49; refine HFl2.out.mono ?_; rintro e w3 ⟨rfl, hb3⟩))
        have hb23 : Below w2.heap.size w2 w3 := (Below.refl _ _).drew.trans hb3
        obtain ⟨c0, c1, c2, c3, c4, _⟩ := HS.out _ hb23
        have HB3 := Lib.hid (HB2.out.trans (hb23.mono HB2.out.size))
        clear HFl2
        have HC3 := Lib.hid (HC.out w3 HB3.out)
        go_wp2_with (first
          | (go_at_call 34; refine HC3.out.mono ?_; rintro e w4 ⟨rfl, hb4⟩; obtain ⟨d0, d1, d2, d3, d4, _⟩ := HS.out _ (hb23.trans (hb4.mono hb23.size)); have HB4 := Lib.hid (HB3.out.trans (hb4.mono HB3.out.size)); clear c0 c1 c2 c3 c4; have HH4 := Lib.hid (HH.out w4 HB4.out))
          | (go_at_call 50; refine HH4.out.mono ?_; rintro e w5 ⟨rfl, hb5⟩))
        go_ret
        exact ⟨Hd.ret_int HX.out.symm, HB4.out.trans (hb5.mono HB4.out.size)⟩
theorem hhas_any (Bt p t m : Nat) (A : Option Addr) (cap : Nat) (rs : List Fl.R) (gs : List (Nat × Pl.P)) (l : List (Hd.K × Hd.H)) (k : Hd.K) (w : World) (h : Hd.At w Bt p t m A cap rs gs l) (hk : Hd.OkK k) :
    Calls Tryz.prog 16 #[.pointer (some ⟨p, 0, none⟩), .agg #[.string k.car, .int .i64 k.num, .int .i64 k.day], .agg #[.int .i64 k.row, .int .u8 k.ltr]] w fun e w' => e = .returned (.bool (Hd.chk (rs.map Fl.R.f) (gs.map Prod.snd) k == 0)) ∧ Below w.heap.size w w' := by
  have HC := Lib.hid (fun W (hb : Below w.heap.size w W) => hcheck_any Bt p t m A cap rs gs l k W (h.kept hb) hk)
  clear h hk
  generalize Hd.chk (rs.map Fl.R.f) (gs.map Prod.snd) k = res at *
  obtain ⟨car, num, day, row, ltr⟩ := k
  simp only at HC ⊢
  go_enter Tryz.func16, Tryz.ntmps16
  go_wp2_with (first
    | (refine Rw.wpList_box rfl 35 _ rfl [.string car, .int .i64 num, .int .i64 day] rfl ?_; intro w1 K1 b1 z1; have HZ1 := Lib.hid z1; clear z1)
    | (refine Rw.wpList_box rfl 37 _ rfl [.int .i64 row, .int .u8 ltr] rfl ?_; intro w2 K2 b2 z2; have HZ2 := Lib.hid z2; clear z2; have K12 := K1.below' b2; have c0 : w2.cell? ⟨w.heap.size, 0, none⟩ = some (.string car) := K12.cell 0; have c1 : w2.cell? ⟨w.heap.size, 1, none⟩ = some (.int .i64 num) := K12.cell 1; have c2 : w2.cell? ⟨w.heap.size, 2, none⟩ = some (.int .i64 day) := K12.cell 2; have d0 : w2.cell? ⟨w1.heap.size, 0, none⟩ = some (.int .i64 row) := K2.cell 0; have d1 : w2.cell? ⟨w1.heap.size, 1, none⟩ = some (.int .u8 ltr) := K2.cell 1; have HB2 := Lib.hid (b1.trans (b2.mono b1.size)); have HC2 := Lib.hid (HC.out w2 HB2.out); clear K1 K2 K12 b1 b2)
    | (go_at_call 30; refine HC2.out.mono ?_; rintro e w3 ⟨rfl, hb3⟩))
  go_ret
  exact ⟨rfl, HB2.out.trans (hb3.mono HB2.out.size)⟩
end Go.Proofs.YtfodabbmjggieaaGreat
