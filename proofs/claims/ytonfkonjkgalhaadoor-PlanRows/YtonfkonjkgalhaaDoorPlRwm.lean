/- The walk of PlanRows, where the plan is right. -/
import Derived.Test.YtonfkonjkgalhaaDoorPlRwp
import Derived.Test.YtonfkonjkgalhaaDoorPlAwk
import Derived.Deep.CutRange
import Derived.Deep.RegionHeld3
namespace Go.Proofs.YtonfkonjkgalhaaDoor
open Go.RowKit Go.WideMaps
set_option linter.unusedVariables false

set_option maxHeartbeats 8000000 in
set_option maxRecDepth 100000 in
theorem rows_main (r : Pl.R) (w : World) (hp : Pl.PlanIn w r) (hf : Pl.fewP r.p = true) (hr : Pl.right r.p = true) :
    Calls Tryd.prog 8 #[Pl.pv r] w fun e w' => e = .returned (.bool true) ∧ Below w.heap.size w w' := by
  obtain ⟨ho, hl⟩ := Pl.right_parts hr
  obtain ⟨r1, r2, r3, r4⟩ := Pl.rows_bd ho
  have hlp := Pl.lt_pos hl
  have HR4 := Lib.hid r4
  have HO := Lib.hid ho
  have HL := Lib.hid hl
  have HFW := Lib.hid (fun W => few_any r W)
  rw [hf] at HFW
  have HMD := Lib.hid (fun (W : World) (hb : Below w.heap.size w W) => made_right r 0 W (hp.below hb) hf hr)
  have HNU := Lib.hid (fun (s : Pl.S) (g : Nat) (W : World) (h : Pl.Kp w g r W) (hs : Pl.WS s) => number_any r.p s w.heap.size g W hl h.m hs)
  have HHA := Lib.hid (fun (s : Pl.S) (g : Nat) (W : World) (h : Pl.Kp w g r W) (hs : Pl.WS s) => has_any r.p s w.heap.size g W hl h.m hs)
  have HMK := Lib.hid (fun (s : Pl.S) (g : Nat) (W : World) (h : Pl.Kp w g r W) (hs : Pl.WS s) => mark_any r.p s w.heap.size g W hl h.m hs)
  have HAT := Lib.hid (fun (s : Pl.S) (g : Nat) (W : World) (h : Pl.Kp w g r W) => at_any r.bA r.p.bl r.bc w.heap.size s W (hp.b.below h.b (Nat.le_refl _)) h.b.size (by have := hp.wf.b; exact this))
  have HE := Lib.hid hp.e
  have hsz := hp.wf.s
  have hel := hp.wf.e
  have e0 : Pl.pv r = .agg (Pl.enc r).toArray := rfl
  rw [e0] at HFW HMD ⊢
  clear e0 hp hf hr ho hl r4
  have hgb := Cd.get_bt r.p.lt
  go_enter Tryd.func8, Tryd.ntmps8
  go_wp2_with (first
    | (refine Rw.wpList_box rfl 32 _ rfl (Pl.enc r) rfl ?_; intro w1 K1 b1 z1; have HB1 := Lib.hid b1; have HK1 := Lib.hid K1; clear z1)
    | (go_at_call 9; refine (awake_any _).mono ?_; rintro e w2 ⟨rfl, hb2⟩; have HB2 := Lib.hid (HB1.out.trans (hb2.mono HB1.out.size)); have HK2 := Lib.hid (HK1.out.below' hb2); clear hb2)
    | (refine wpList_load_mid rfl 32 _ rfl w.heap.size 0 rfl (Pl.enc r) _ HK3.out.range Pl.uP Pl.rP Pl.iP ?_)
    | (refine wpList_load_mid rfl 32 _ rfl w.heap.size 0 rfl (Pl.enc r) _ HK2.out.range Pl.uP Pl.rP Pl.iP ?_)
    | (go_at_call 14; refine (HFW.out _).mono ?_; rintro e w3 ⟨rfl, hb3⟩; have HB3 := Lib.hid (HB2.out.trans (hb3.mono HB2.out.size)); have HK3 := Lib.hid (HK2.out.below' hb3); clear hb3)
    | (go_at_call 18; refine (HMD.out w3 HB3.out).mono ?_; rintro e w4 ⟨g, rfl, hm4, hb4⟩; have HP4 : Hid (Pl.Kp w g r w4) := ⟨hm4.low HB3.out.size, HK3.out.below' hb4, HB3.out.trans (hb4.mono HB3.out.size)⟩; have q0 : w4.cell? ⟨w.heap.size, 0, none⟩ = some (.int .i64 r.p.fr) := HP4.out.cells.1; clear hb4 hm4))
  clear HB1 HK1 HB2 HK2 HB3 HK3 HFW HMD q0
  go_loopw [5, 6] (fun nn i wr => ∃ k : Nat, k ≤ Pl.nrows r.p ∧ i = .int .i64 (r.p.fr + k) ∧ nn = .int .i64 ((Pl.upto r.p k).length : Nat) ∧ Hid (Pl.Kp w g r wr)) (fun _ i _ => (Pl.nrows r.p - (intOf i - r.p.fr)).toNat)
  case atStart => exact ⟨0, by omega, by simp, rfl, HP4⟩
  case round =>
    obtain ⟨wa, ea⟩ : ∃ x, x = wr := ⟨_, rfl⟩
    subst ea
    obtain ⟨k, hk, rfl, rfl, HPa⟩ := hrel
    obtain ⟨q0, q1, q2, _⟩ := HPa.out.cells
    have hr4 := HR4.out
    by_cases hlt : k < Pl.nrows r.p
    · have hle : r.p.fr + (k : Int) ≤ r.p.la := by omega
      have HEND : Hid ((Pl.ahead r.p k r.p.lt.size).length = (Pl.upto r.p (k + 1)).length) := show _ = _ by rw [Pl.ahead_end]
      have HST0 : Hid ((Pl.upto r.p k).length = (Pl.ahead r.p k 0).length) := show _ = _ by rw [Pl.ahead_zero]
      have HLN : Hid (∀ i, i ≤ r.p.lt.size → (Pl.ahead r.p k i).length ≤ 600) := fun i hi => Pl.ahead_len HL.out HO.out hlt hi
      have hk60 : k < 60 := by omega
      clear hr4
      go_wp2
      go_loopw [5, 7] (fun nn i wr => ∃ i2 n : Nat, i2 ≤ r.p.lt.size ∧ i = .int .i64 i2 ∧ nn = .int .i64 n ∧ Hid (n = (Pl.ahead r.p k i2).length) ∧ Hid (Pl.Kp w g r wr)) (fun _ i _ => r.p.lt.size - (intOf i).toNat)
      case atStart => exact ⟨0, _, by omega, rfl, rfl, HST0, HPa⟩
      case round =>
        obtain ⟨wb, eb⟩ : ∃ x, x = wr := ⟨_, rfl⟩
        subst eb
        obtain ⟨i, n, hi, rfl, rfl, HN, HPb⟩ := hrel
        obtain ⟨p0, p1, p2, _⟩ := HPb.out.cells
        by_cases hi2 : i < r.p.lt.size
        · by_cases hd : Cd.bt r.p.lt i = 46
          · have hx : (Cd.bt r.p.lt i == 46) = true := by simp [hd]
            have HN2 : Hid (n = (Pl.ahead r.p k (i + 1)).length) := show _ = _ by rw [Pl.ahead_no r.p k i hd]; exact HN.out
            clear hd
            go_wp2
            go_roundw
            case rel => exact ⟨i + 1, n, by omega, by go_num, rfl, HN2, HPb⟩
            case measure => simp [intOf]; omega
          · have hx : (Cd.bt r.p.lt i == 46) = false := by simp [hd]
            have b0 := Cd.bt_lo r.p.lt i
            have b9 := Cd.bt_hi r.p.lt i
            have hnl := HLN.out i hi
            rw [← HN.out] at hnl
            have HN2 : Hid (n + 1 = (Pl.ahead r.p k (i + 1)).length) := show _ = _ by rw [Pl.ahead_yes r.p k i hd, HN.out]; simp
            have hws : Pl.WS (r.p.fr + (k : Int), Cd.bt r.p.lt i) := ⟨by show _ ≤ r.p.fr + (k : Int); omega, by show r.p.fr + (k : Int) ≤ _; omega, b0, b9⟩
            have HNUi := Lib.hid (fun W h => HNU.out (r.p.fr + (k : Int), Cd.bt r.p.lt i) g W h hws)
            rw [Pl.row_num HL.out hlt hi2 hd, ← HN.out] at HNUi
            have HHAi := Lib.hid (fun W h => HHA.out (r.p.fr + (k : Int), Cd.bt r.p.lt i) g W h hws)
            have HMKi := Lib.hid (fun W h => HMK.out (r.p.fr + (k : Int), Cd.bt r.p.lt i) g W h hws)
            have HATi := Lib.hid (fun W h => HAT.out (r.p.fr + (k : Int), Cd.bt r.p.lt i) g W h)
            have HRH := Lib.hid (Pl.row_has hlt hi2 hd)
            have HIX : Hid (decide (Pl.ix r.p.bl (r.p.fr + (k : Int), Cd.bt r.p.lt i) < 0) = !r.p.bl.contains (r.p.fr + (k : Int), Cd.bt r.p.lt i)) := Pl.ix_neg
            have HMY := Lib.hid (fun h => Pl.mk_yes (row := r.p.fr + (k : Int)) HL.out h hi2 hd)
            have HMN := Lib.hid (fun h => Pl.mk_no (p := r.p) (s := (r.p.fr + (k : Int), Cd.bt r.p.lt i)) h)
            have e1 : Pl.sv (r.p.fr + (k : Int), Cd.bt r.p.lt i) = .agg #[.int .i64 (r.p.fr + (k : Int)), .int .u8 (Cd.bt r.p.lt i)] := rfl
            rw [e1] at HNUi HHAi HMKi HATi
            clear e1 hd hws
            unfold Pl.AtR at HATi
            generalize Pl.ix r.p.bl (r.p.fr + (k : Int), Cd.bt r.p.lt i) = ixv at *
            generalize Pl.mkS r.p (r.p.fr + (k : Int), Cd.bt r.p.lt i) = mk at *
            generalize Pl.hasS r.p (r.p.fr + (k : Int), Cd.bt r.p.lt i) = hq at *
            generalize r.p.bl.contains (r.p.fr + (k : Int), Cd.bt r.p.lt i) = bq at *
            cases bq with
            | true =>
              obtain rfl := HRH.out
              obtain rfl := HMN.out rfl
              have hxv : ¬ ixv < 0 := by have := HIX.out; simpa using this
              go_wp2_with (first
                | (refine Rw.wpList_alloc rfl 23 rfl [.int .i64 0, .int .u8 0] Pl.zSeat ?_; intro w2 K2 hb2 hz2; have HK2 := Lib.hid K2; have HB2 := Lib.hid hb2; clear K2 hb2 hz2)
                | (refine Rw.wpList_store_whole rfl 23 _ _ rfl wb.heap.size rfl [.int .i64 (r.p.fr + (k : Int)), .int .u8 (Cd.bt r.p.lt i)] rfl _ _ HK2.out Pl.iSeat rfl (by simp [Value.oneCell']) ?_; intro w3 K3 f3; have hb3 : Below wb.heap.size wb w3 := HB2.out.trans (f3.below HB2.out.size (fun x hx => Nat.le_of_eq hx.symm)); have HP3 := Lib.hid (HPb.out.below hb3); have HK3 := Lib.hid K3; clear K3 f3 hb3)
                | (refine wpList_load_mid rfl 23 _ rfl wb.heap.size 0 rfl [.int .i64 (r.p.fr + (k : Int)), .int .u8 (Cd.bt r.p.lt i)] _ HK6.out.range Pl.uS Pl.rS Pl.iSeat ?_)
                | (refine wpList_load_mid rfl 23 _ rfl wb.heap.size 0 rfl [.int .i64 (r.p.fr + (k : Int)), .int .u8 (Cd.bt r.p.lt i)] _ HK5.out.range Pl.uS Pl.rS Pl.iSeat ?_)
                | (refine wpList_load_mid rfl 23 _ rfl wb.heap.size 0 rfl [.int .i64 (r.p.fr + (k : Int)), .int .u8 (Cd.bt r.p.lt i)] _ HK4.out.range Pl.uS Pl.rS Pl.iSeat ?_)
                | (refine wpList_load_mid rfl 23 _ rfl wb.heap.size 0 rfl [.int .i64 (r.p.fr + (k : Int)), .int .u8 (Cd.bt r.p.lt i)] _ HK3.out.range Pl.uS Pl.rS Pl.iSeat ?_)
                | (go_at_call 25; refine (HNUi.out _ HP3.out).mono ?_; rintro e w4 ⟨rfl, hb4⟩; have HP4b := Lib.hid (HP3.out.below hb4); have HK4 := Lib.hid (HK3.out.below' hb4); clear hb4)
                | (go_at_call 23; refine (HHAi.out _ HP4b.out).mono ?_; rintro e w5 ⟨rfl, hb5⟩; have HP5 := Lib.hid (HP4b.out.below hb5); have HK5 := Lib.hid (HK4.out.below' hb5); clear hb5)
                | (go_at_call 27; refine (HMKi.out _ HP5.out).mono ?_; rintro e w6 ⟨rfl, hb6⟩; have HP6 := Lib.hid (HP5.out.below hb6); have HK6 := Lib.hid (HK5.out.below' hb6); have c4 : w6.cell? ⟨w.heap.size, 4, none⟩ = some (.slice r.bA r.p.bl.length r.bc) := (HP6.out.k.cell 4).trans rfl; have s60 : w6.cell? ⟨wb.heap.size, 0, none⟩ = some (.int .i64 (r.p.fr + (k : Int))) := (HK6.out.cell 0).trans rfl; have s61 : w6.cell? ⟨wb.heap.size, 1, none⟩ = some (.int .u8 (Cd.bt r.p.lt i)) := (HK6.out.cell 1).trans rfl; clear hb6)
                | (go_at_call 26; refine (HATi.out _ HP6.out).mono ?_; rintro e w7 ⟨rfl, hb7⟩; have HP7 := Lib.hid (HP6.out.below hb7); clear hb7))
              go_roundw
              case rel => exact ⟨i + 1, n + 1, by omega, by go_num, by go_num, HN2, HP7⟩
              case measure => simp [intOf]; omega
            | false =>
              obtain rfl := HRH.out
              have hmk := HMY.out rfl
              have HM0 : Hid (Pl.win r.p i = (decide (0 < mk.size) && (Cd.bt mk 0 == 87))) := show _ = _ by rw [hmk]; exact Pl.mk_first _ _ _
              have HM1 : Hid (r.p.ex.contains (r.p.fr + (k : Int)) = (decide (0 < mk.size) && (Cd.bt mk (mk.size - 1) == 69))) := show _ = _ by rw [hmk]; exact Pl.mk_last _ _ _
              have hms : mk.size ≤ 3 := by rw [hmk]; exact Pl.mk_size _ _ _
              clear hmk
              have HWN : Hid (Pl.win r.p i = (decide (i = 0) || decide (i + 1 = r.p.lt.size))) := show _ = _ by rfl
              have HTK : Hid (∀ j, j < r.p.ex.length → (r.p.ex.take (j + 1)).contains (r.p.fr + (k : Int)) = ((r.p.ex.take j).contains (r.p.fr + (k : Int)) || (Pl.gI r.p.ex j == r.p.fr + (k : Int)))) := fun j hj => Pl.take_has hj
              have HTE : Hid ((r.p.ex.take r.p.ex.length).contains (r.p.fr + (k : Int)) = r.p.ex.contains (r.p.fr + (k : Int))) := show _ = _ by rw [List.take_length]
              generalize Pl.win r.p i = qw at *
              generalize r.p.ex.contains (r.p.fr + (k : Int)) = qe at *
              have hgm := Cd.get_bt mk
              go_upto_region 24 with (first
                | (refine Rw.wpList_alloc rfl 23 rfl [.int .i64 0, .int .u8 0] Pl.zSeat ?_; intro w2 K2 hb2 hz2; have HK2 := Lib.hid K2; have HB2 := Lib.hid hb2; clear K2 hb2 hz2)
                | (refine Rw.wpList_store_whole rfl 23 _ _ rfl wb.heap.size rfl [.int .i64 (r.p.fr + (k : Int)), .int .u8 (Cd.bt r.p.lt i)] rfl _ _ HK2.out Pl.iSeat rfl (by simp [Value.oneCell']) ?_; intro w3 K3 f3; have hb3 : Below wb.heap.size wb w3 := HB2.out.trans (f3.below HB2.out.size (fun x hx => Nat.le_of_eq hx.symm)); have HP3 := Lib.hid (HPb.out.below hb3); have HK3 := Lib.hid K3; clear K3 f3 hb3)
                | (refine wpList_load_mid rfl 23 _ rfl wb.heap.size 0 rfl [.int .i64 (r.p.fr + (k : Int)), .int .u8 (Cd.bt r.p.lt i)] _ HK5.out.range Pl.uS Pl.rS Pl.iSeat ?_)
                | (refine wpList_load_mid rfl 23 _ rfl wb.heap.size 0 rfl [.int .i64 (r.p.fr + (k : Int)), .int .u8 (Cd.bt r.p.lt i)] _ HK4.out.range Pl.uS Pl.rS Pl.iSeat ?_)
                | (refine wpList_load_mid rfl 23 _ rfl wb.heap.size 0 rfl [.int .i64 (r.p.fr + (k : Int)), .int .u8 (Cd.bt r.p.lt i)] _ HK3.out.range Pl.uS Pl.rS Pl.iSeat ?_)
                | (go_at_call 25; refine (HNUi.out _ HP3.out).mono ?_; rintro e w4 ⟨rfl, hb4⟩; have HP4b := Lib.hid (HP3.out.below hb4); have HK4 := Lib.hid (HK3.out.below' hb4); clear hb4)
                | (go_at_call 23; refine (HHAi.out _ HP4b.out).mono ?_; rintro e w5 ⟨rfl, hb5⟩; have HP5 := Lib.hid (HP4b.out.below hb5); have HK5 := Lib.hid (HK4.out.below' hb5); clear hb5)
                | (go_at_call 27; refine (HMKi.out _ HP5.out).mono ?_; rintro e w6 ⟨rfl, hb6⟩; have HP6 := Lib.hid (HP5.out.below hb6); have HK6 := Lib.hid (HK5.out.below' hb6); clear hb6))
              go_cut [10] from 34 to 129 (fun s10 wx => s10 = .bool qw ∧ wx = w6)
              case first =>
                by_cases hm0 : 0 < mk.size
                · have hw2 : qw = (Cd.bt mk 0 == 87) := by rw [HM0.out]; simp [hm0]
                  have HW2 := Lib.hid hw2
                  clear hw2
                  go_wp2
                  go_meet
                  exact ⟨by rw [HW2.out], rfl⟩
                · have hw2 : qw = false := by rw [HM0.out]; simp [hm0]
                  have hmz : mk.size = 0 := by omega
                  subst hw2
                  go_wp2
                  go_meet
                  exact ⟨rfl, rfl⟩
              case rest =>
                obtain ⟨rfl, ew⟩ := hcut
                subst ew
                obtain ⟨w8, e8⟩ : ∃ x, x = wc := ⟨_, rfl⟩
                subst e8
                go_upto_region 25 with (fail)
                go_cut [11] from 34 to 129 (fun s11 wx => s11 = .bool qe ∧ wx = w8)
                case first =>
                  by_cases hm0 : 0 < mk.size
                  · obtain ⟨z, hz⟩ : ∃ z, mk.size = z + 1 := ⟨mk.size - 1, by omega⟩
                    have hw2 : qe = (Cd.bt mk z == 69) := by rw [HM1.out, hz]; simp
                    have HW2 := Lib.hid hw2
                    have hzi : (mk.size : Int) - 1 = (z : Int) := by omega
                    have hzl : z < mk.size := by omega
                    clear hw2 hz
                    go_wp2
                    go_meet
                    exact ⟨by rw [HW2.out], rfl⟩
                  · have hw2 : qe = false := by rw [HM1.out]; simp [hm0]
                    have hmz : mk.size = 0 := by omega
                    subst hw2
                    go_wp2
                    go_meet
                    exact ⟨rfl, rfl⟩
                case rest =>
                  obtain ⟨rfl, ew⟩ := hcut
                  subst ew
                  obtain ⟨w9, e9⟩ : ∃ x, x = wc := ⟨_, rfl⟩
                  subst e9
                  have HC3 : Hid (w9.cell? ⟨w.heap.size, 3, none⟩ = some (.slice r.eA r.p.ex.length r.ec)) := show _ = _ by exact (HP6.out.k.cell 3).trans rfl
                  have c2 : w9.cell? ⟨w.heap.size, 2, none⟩ = some (.string r.p.lt) := (HP6.out.k.cell 2).trans rfl
                  clear hgm HM0 HM1 hms HNUi HHAi HMKi HATi
                  go_wp2
                  go_loopw [12, 13] (fun wn j wr => ∃ (k3 : Nat) (q : Bool), k3 ≤ r.p.ex.length ∧ j = .int .i64 k3 ∧ wn = .bool q ∧ Hid (q = (r.p.ex.take k3).contains (r.p.fr + (k : Int))) ∧ wr = w9) (fun _ j _ => r.p.ex.length - (intOf j).toNat)
                  case atStart => exact ⟨0, false, by omega, rfl, rfl, show _ = _ by simp, rfl⟩
                  case round =>
                    obtain ⟨k3, q, hk3, rfl, rfl, HQ, ew⟩ := hrel
                    subst ew
                    by_cases hlt3 : k3 < r.p.ex.length
                    · have htk := HTK.out k3 hlt3
                      rw [← HQ.out] at htk
                      obtain ⟨b, off, eA, hb, hc⟩ := HE.out (by omega)
                      have x0 : wr.cell? ⟨b, off + k3, none⟩ = some (.int .i64 (Pl.gI r.p.ex k3)) := (HP6.out.b.cell (p := ⟨b, off + k3, none⟩) hb).trans (hc k3 hlt3)
                      have c3 := HC3.out
                      rw [eA] at c3
                      have HTK3 := Lib.hid htk
                      clear hc eA htk
                      generalize Pl.gI r.p.ex k3 = x at *
                      cases q with
                      | true =>
                        have HQ2 : Hid (true = (r.p.ex.take (k3 + 1)).contains (r.p.fr + (k : Int))) := show _ = _ by rw [HTK3.out]; rfl
                        clear HTK3
                        go_wp2
                        go_roundw
                        case rel => exact ⟨k3 + 1, true, by omega, by go_num, rfl, HQ2, trivial⟩
                        case measure => simp [intOf]; omega
                      | false =>
                        obtain ⟨bx, hbx⟩ : ∃ bx, bx = (x == r.p.fr + (k : Int)) := ⟨_, rfl⟩
                        have HQ2 : Hid (bx = (r.p.ex.take (k3 + 1)).contains (r.p.fr + (k : Int))) := show _ = _ by rw [HTK3.out, ← hbx]; rfl
                        clear HTK3
                        cases bx with
                        | true =>
                          have hbx2 : (x == r.p.fr + (k : Int)) = true := hbx.symm
                          clear hbx
                          go_wp2
                          go_roundw
                          case rel => exact ⟨k3 + 1, true, by omega, by go_num, rfl, HQ2, trivial⟩
                          case measure => simp [intOf]; omega
                        | false =>
                          have hbx2 : (x == r.p.fr + (k : Int)) = false := hbx.symm
                          clear hbx
                          go_wp2
                          go_roundw
                          case rel => exact ⟨k3 + 1, false, by omega, by go_num, rfl, HQ2, trivial⟩
                          case measure => simp [intOf]; omega
                    · have c3 := HC3.out
                      have hk3e : k3 = r.p.ex.length := by omega
                      have hq : qe = q := by rw [← HTE.out, ← hk3e, ← HQ.out]
                      subst hq
                      clear hk3e HQ
                      by_cases hi0 : i = 0
                      · have hqw : qw = true := by rw [HWN.out]; simp [hi0]
                        have hd0 : ((i : Int) == 0) = true := by simp [hi0]
                        subst hqw
                        clear hi0
                        cases qe with
                        | true =>
                          go_wp2
                          go_roundw
                          case rel => exact ⟨i + 1, n + 1, by omega, by go_num, by go_num, HN2, HP6⟩
                          case measure => simp [intOf]; omega
                        | false =>
                          go_wp2
                          go_roundw
                          case rel => exact ⟨i + 1, n + 1, by omega, by go_num, by go_num, HN2, HP6⟩
                          case measure => simp [intOf]; omega
                      · have hd0 : ((i : Int) == 0) = false := by simp; omega
                        by_cases hi1 : i + 1 = r.p.lt.size
                        · have hqw : qw = true := by rw [HWN.out]; simp [hi1]
                          have hd1 : ((i : Int) == (r.p.lt.size : Int) - 1) = true := by simp; omega
                          subst hqw
                          clear hi1
                          cases qe with
                          | true =>
                            go_wp2
                            go_roundw
                            case rel => exact ⟨i + 1, n + 1, by omega, by go_num, by go_num, HN2, HP6⟩
                            case measure => simp [intOf]; omega
                          | false =>
                            go_wp2
                            go_roundw
                            case rel => exact ⟨i + 1, n + 1, by omega, by go_num, by go_num, HN2, HP6⟩
                            case measure => simp [intOf]; omega
                        · have hqw : qw = false := by rw [HWN.out]; simp [hi0, hi1]
                          have hd1 : ((i : Int) == (r.p.lt.size : Int) - 1) = false := by simp; omega
                          subst hqw
                          clear hi1
                          cases qe with
                          | true =>
                            go_wp2
                            go_roundw
                            case rel => exact ⟨i + 1, n + 1, by omega, by go_num, by go_num, HN2, HP6⟩
                            case measure => simp [intOf]; omega
                          | false =>
                            go_wp2
                            go_roundw
                            case rel => exact ⟨i + 1, n + 1, by omega, by go_num, by go_num, HN2, HP6⟩
                            case measure => simp [intOf]; omega
        · have hin : i = r.p.lt.size := by omega
          have HN2 : Hid ((n : Int) = ((Pl.upto r.p (k + 1)).length : Nat)) := show _ = _ by rw [← HEND.out, ← hin, HN.out]
          clear hin
          go_wp2
          go_roundw
          case rel => exact ⟨k + 1, by omega, by go_num, by rw [HN2.out], HPb⟩
          case measure => simp [intOf]; omega
    · have hle : ¬ r.p.fr + (k : Int) ≤ r.p.la := by omega
      clear hr4
      have hlpI : (0 : Int) < (r.p.lt.size : Int) := by omega
      have hwr1 : IntKind.i64.wrap (r.p.fr - 1) = r.p.fr - 1 := IntWalk.i64_in _ (by omega)
      have hwr2 : IntKind.i64.wrap (r.p.la + 1) = r.p.la + 1 := IntWalk.i64_in _ (by omega)
      have b0 := Cd.bt_lo r.p.lt 0
      have b9 := Cd.bt_hi r.p.lt 0
      have HD1 := Lib.hid (fun W h => HHA.out (r.p.fr, 46) g W h ⟨by show _ ≤ r.p.fr; omega, by show r.p.fr ≤ _; omega, by show (0 : Int) ≤ 46; decide, by show (46 : Int) ≤ 255; decide⟩)
      rw [Pl.has_dot] at HD1
      have HD2 := Lib.hid (fun W h => HHA.out (r.p.fr - 1, Cd.bt r.p.lt 0) g W h ⟨by show _ ≤ r.p.fr - 1; omega, by show r.p.fr - 1 ≤ _; omega, b0, b9⟩)
      rw [Pl.has_out (by unfold Pl.inRow; simp; omega)] at HD2
      have HD3 := Lib.hid (fun W h => HHA.out (r.p.la + 1, Cd.bt r.p.lt 0) g W h ⟨by show _ ≤ r.p.la + 1; omega, by show r.p.la + 1 ≤ _; omega, b0, b9⟩)
      rw [Pl.has_out (by unfold Pl.inRow; simp; omega)] at HD3
      have e1 : Pl.sv (r.p.fr, 46) = .agg #[.int .i64 r.p.fr, .int .u8 46] := rfl
      have e2 : Pl.sv (r.p.fr - 1, Cd.bt r.p.lt 0) = .agg #[.int .i64 (r.p.fr - 1), .int .u8 (Cd.bt r.p.lt 0)] := rfl
      have e3 : Pl.sv (r.p.la + 1, Cd.bt r.p.lt 0) = .agg #[.int .i64 (r.p.la + 1), .int .u8 (Cd.bt r.p.lt 0)] := rfl
      rw [e1] at HD1
      rw [e2] at HD2
      rw [e3] at HD3
      have hg0 : ∀ h : 0 < r.p.lt.size, ((r.p.lt[0]'h).toNat : Int) = Cd.bt r.p.lt 0 := fun h => hgb 0 h
      clear e1 e2 e3 HNU HHA HMK HAT b0 b9 hgb
      obtain ⟨y1, hy1⟩ : ∃ y, y = r.p.fr - 1 := ⟨_, rfl⟩
      obtain ⟨y2, hy2⟩ : ∃ y, y = r.p.la + 1 := ⟨_, rfl⟩
      obtain ⟨c0, hc0⟩ : ∃ c, c = Cd.bt r.p.lt 0 := ⟨_, rfl⟩
      rw [← hy1, ← hc0] at HD2
      rw [← hy2, ← hc0] at HD3
      rw [← hc0] at hg0
      have hwr1' : IntKind.i64.wrap (r.p.fr - 1) = y1 := by rw [hwr1, hy1]
      have hwr2' : IntKind.i64.wrap (r.p.la + 1) = y2 := by rw [hwr2, hy2]
      clear hy1 hy2 hc0 hwr1 hwr2
      go_wp2
      go_region_held3 (fun w' => w'.cell? ⟨w.heap.size, 0, none⟩ = some (.int .i64 r.p.fr) ∧ w'.cell? ⟨w.heap.size, 1, none⟩ = some (.int .i64 r.p.la) ∧ w'.cell? ⟨w.heap.size, 2, none⟩ = some (.string r.p.lt) ∧ Hid (Pl.Kp w g r w')) (first | assumption | exact (Pl.Kp.below (Pl.Kp.of4 (by assumption)) hbq).cells | exact (HPa.out.below (Below.refl _ _).drew).cells) (first
        | (go_at_call 23; with_reducible refine (HD1.out _ (Pl.Kp.of4 (by assumption))).mono ?_; rintro e wq ⟨rfl, hbq⟩)
        | (go_at_call 23; with_reducible refine (HD2.out _ (Pl.Kp.of4 (by assumption))).mono ?_; rintro e wq ⟨rfl, hbq⟩)
        | (go_at_call 23; with_reducible refine (HD3.out _ (Pl.Kp.of4 (by assumption))).mono ?_; rintro e wq ⟨rfl, hbq⟩))
      all_goals go_wp2
      all_goals go_ret
      all_goals exact ⟨rfl, (Pl.Kp.of4 (by assumption)).b⟩
end Go.Proofs.YtonfkonjkgalhaaDoor
