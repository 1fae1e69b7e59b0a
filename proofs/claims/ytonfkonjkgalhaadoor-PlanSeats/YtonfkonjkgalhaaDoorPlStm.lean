/- The walk of PlanSeats, where the plan is right. -/
import Derived.Test.YtonfkonjkgalhaaDoorPlRmk
import Derived.Test.YtonfkonjkgalhaaDoorPlRwp
import Derived.Deep.CutRange
import Derived.Deep.RegionHeld3
namespace Go.Proofs.YtonfkonjkgalhaaDoor
open Go.RowKit Go.WideMaps
set_option linter.unusedVariables false

namespace Pl
/-- What stays. -/
structure Ks (w : World) (gs g : Nat) (r : R) (s : S) (v : World) : Prop where
  k : Kp w g r v
  s : Rw.Blk v gs 23 [.int .i64 s.1, .int .u8 s.2]
theorem Ks.below {w : World} {gs g : Nat} {r : R} {s : S} {v v' : World} (h : Ks w gs g r s v) (hb : Below v.heap.size v v') : Ks w gs g r s v' := ⟨h.k.below hb, h.s.below' hb⟩
theorem Ks.cells {w : World} {gs g : Nat} {r : R} {s : S} {v : World} (h : Ks w gs g r s v) : v.cell? ⟨w.heap.size, 0, none⟩ = some (.int .i64 r.p.fr) ∧ v.cell? ⟨w.heap.size, 1, none⟩ = some (.int .i64 r.p.la) ∧ v.cell? ⟨w.heap.size, 2, none⟩ = some (.string r.p.lt) ∧ v.cell? ⟨w.heap.size, 3, none⟩ = some (.slice r.eA r.p.ex.length r.ec) ∧ v.cell? ⟨w.heap.size, 4, none⟩ = some (.slice r.bA r.p.bl.length r.bc) ∧ v.cell? ⟨gs, 0, none⟩ = some (.int .i64 s.1) ∧ v.cell? ⟨gs, 1, none⟩ = some (.int .u8 s.2) ∧ Hid (Pl.Ks w gs g r s v) :=
  ⟨(h.k.k.cell 0).trans rfl, (h.k.k.cell 1).trans rfl, (h.k.k.cell 2).trans rfl, (h.k.k.cell 3).trans rfl, (h.k.k.cell 4).trans rfl, (h.s.cell 0).trans rfl, (h.s.cell 1).trans rfl, h⟩
theorem Ks.of {w : World} {gs g : Nat} {r : R} {s : S} {v : World} (h : v.cell? ⟨w.heap.size, 0, none⟩ = some (.int .i64 r.p.fr) ∧ v.cell? ⟨w.heap.size, 1, none⟩ = some (.int .i64 r.p.la) ∧ v.cell? ⟨w.heap.size, 2, none⟩ = some (.string r.p.lt) ∧ v.cell? ⟨w.heap.size, 3, none⟩ = some (.slice r.eA r.p.ex.length r.ec) ∧ v.cell? ⟨w.heap.size, 4, none⟩ = some (.slice r.bA r.p.bl.length r.bc) ∧ v.cell? ⟨gs, 0, none⟩ = some (.int .i64 s.1) ∧ v.cell? ⟨gs, 1, none⟩ = some (.int .u8 s.2) ∧ Hid (Pl.Ks w gs g r s v)) : Ks w gs g r s v := h.2.2.2.2.2.2.2.out
end Pl
set_option maxHeartbeats 8000000 in
set_option maxRecDepth 100000 in
theorem seats_main (r : Pl.R) (s1 s2 : Int) (hws : Pl.WS (s1, s2)) (w : World) (hp : Pl.PlanIn w r) (hf : Pl.fewP r.p = true) (hr : Pl.right r.p = true) :
    Calls Tryd.prog 5 #[Pl.pv r, .agg #[.int .i64 s1, .int .u8 s2]] w fun e w' => e = .returned (.bool true) ∧ Below w.heap.size w w' := by
  obtain ⟨ho, hl⟩ := Pl.right_parts hr
  have hal := Pl.all_len hl ho
  have hsl : (Pl.seatsOf r.p).length ≤ 600 := Nat.le_trans (List.length_filter_le _ _) hal
  have HFW := Lib.hid (fun W => few_any r W)
  rw [hf] at HFW
  have HMD := Lib.hid (fun (W : World) (hb : Below w.heap.size w W) => made_right r 0 W (hp.below hb) hf hr)
  have HNU := Lib.hid (fun (s : Pl.S) (g : Nat) (W : World) (h : Pl.Kp w g r W) (hs : Pl.WS s) => number_any r.p s w.heap.size g W hl h.m hs)
  have HHA := Lib.hid (fun (s : Pl.S) (g : Nat) (W : World) (h : Pl.Kp w g r W) (hs : Pl.WS s) => has_any r.p s w.heap.size g W hl h.m hs)
  have HMK := Lib.hid (fun (s : Pl.S) (g : Nat) (W : World) (h : Pl.Kp w g r W) (hs : Pl.WS s) => mark_any r.p s w.heap.size g W hl h.m hs)
  have HST := Lib.hid (fun (g : Nat) (W : World) (h : Pl.Kp w g r W) => seats_any r.p w.heap.size g W ho hl h.m)
  have HRS := Lib.hid (fun (g : Nat) (W : World) (h : Pl.Kp w g r W) => rseats_any r w.heap.size W hp.wf (hp.b.below h.b (Nat.le_refl _)) h.b.size ho hl)
  have HRH := Lib.hid (fun (s : Pl.S) (g : Nat) (W : World) (h : Pl.Kp w g r W) => rhas_any r s w.heap.size W hp.wf (hp.b.below h.b (Nat.le_refl _)) h.b.size ho hl)
  have HRM := Lib.hid (fun (s : Pl.S) (g : Nat) (W : World) (h : Pl.Kp w g r W) => rmark_any r s w.heap.size W hp.wf (hp.e.below h.b (Nat.le_refl _)) (hp.b.below h.b (Nat.le_refl _)) h.b.size hr)
  have HPL := Lib.hid (fun (W : World) => rplaces_any r W hp.wf.s ho hl)
  have HAT := Lib.hid (fun (A : Option Addr) (c : Nat) (x : Pl.S) (W : World) (h : Pl.Sts W W.heap.size A (Pl.all r.p)) => at_any A (Pl.all r.p) c W.heap.size x W h (Nat.le_refl _) (by omega))
  have HSM : Hid (∀ (A A' : Option Addr) (c c' : Nat) (W : World), Pl.Sts W W.heap.size A (Pl.seatsOf r.p) → Pl.Sts W W.heap.size A' (Pl.seatsOf r.p) → Calls Tryd.prog 19 #[.slice A (Pl.seatsOf r.p).length c, .slice A' (Pl.seatsOf r.p).length c'] W fun e w' => e = .returned (.bool true) ∧ Below W.heap.size W w') := fun A A' c c' W h h' => by
    have h1 := same_any A A' (Pl.seatsOf r.p) (Pl.seatsOf r.p) c c' W.heap.size W.heap.size W h h' (by omega) (by omega)
    rw [decide_eq_true rfl] at h1
    exact h1
  have HWS : Hid (∀ x ∈ Pl.all r.p, Pl.WS x) := fun x hx => Pl.all_WS ho hx
  have HWS1 := Lib.hid hws
  have HNX : Hid (∀ x, Pl.num r.p x = Pl.ix (Pl.all r.p) x) := fun x => rfl
  have e0 : Pl.pv r = .agg (Pl.enc r).toArray := rfl
  have HRS2 := HRS
  have HRH2 := HRH
  have HRM2 := HRM
  have HPL2 := HPL
  unfold Pl.pv at HRS2 HRH2 HRM2 HPL2
  rw [e0] at HFW HMD ⊢
  clear e0 hp hf hr ho hl hws HRS HRH HRM HPL
  go_enter Tryd.func5, Tryd.ntmps5
  go_upto_region 8 with (first
    | (refine Rw.wpList_box rfl 32 _ rfl (Pl.enc r) rfl ?_; intro w1 K1 b1 z1; have HB1 := Lib.hid b1; have HK1 := Lib.hid K1; clear z1)
    | (refine Rw.wpList_box rfl 23 _ rfl [.int .i64 s1, .int .u8 s2] rfl ?_; intro wS KS bS zS; have HBS := Lib.hid (HB1.out.trans (bS.mono HB1.out.size)); have HKS := Lib.hid KS; have HK1S := Lib.hid (HK1.out.below' bS); clear zS KS bS)
    | (go_at_call 9; refine (awake_any _).mono ?_; rintro e w2 ⟨rfl, hb2⟩; have HB2 := Lib.hid (HBS.out.trans (hb2.mono HBS.out.size)); have HK2 := Lib.hid (HK1S.out.below' hb2); have HS2 := Lib.hid (HKS.out.below' hb2); clear hb2)
    | (refine wpList_load_mid rfl 32 _ rfl w.heap.size 0 rfl (Pl.enc r) _ HK3.out.range Pl.uP Pl.rP Pl.iP ?_)
    | (refine wpList_load_mid rfl 32 _ rfl w.heap.size 0 rfl (Pl.enc r) _ HK2.out.range Pl.uP Pl.rP Pl.iP ?_)
    | (go_at_call 14; refine (HFW.out _).mono ?_; rintro e w3 ⟨rfl, hb3⟩; have HB3 := Lib.hid (HB2.out.trans (hb3.mono HB2.out.size)); have HK3 := Lib.hid (HK2.out.below' hb3); have HS3 := Lib.hid (HS2.out.below' hb3); clear hb3)
    | (go_at_call 18; refine (HMD.out w3 HB3.out).mono ?_; rintro e w4 ⟨g, rfl, hm4, hb4⟩; have HK4 : Hid (Pl.Ks w w1.heap.size g r (s1, s2) w4) := ⟨⟨hm4.low HB3.out.size, HK3.out.below' hb4, HB3.out.trans (hb4.mono HB3.out.size)⟩, HS3.out.below' hb4⟩; clear hb4 hm4))
  clear HB1 HK1 HBS HKS HK1S HB2 HK2 HS2 HB3 HK3 HS3 HFW HMD
  generalize w1.heap.size = gs at *
  have HOF : Hid (∀ v : World, (v.cell? ⟨w.heap.size, 0, none⟩ = some (.int .i64 r.p.fr) ∧ v.cell? ⟨w.heap.size, 1, none⟩ = some (.int .i64 r.p.la) ∧ v.cell? ⟨w.heap.size, 2, none⟩ = some (.string r.p.lt) ∧ v.cell? ⟨w.heap.size, 3, none⟩ = some (.slice r.eA r.p.ex.length r.ec) ∧ v.cell? ⟨w.heap.size, 4, none⟩ = some (.slice r.bA r.p.bl.length r.bc) ∧ v.cell? ⟨gs, 0, none⟩ = some (.int .i64 s1) ∧ v.cell? ⟨gs, 1, none⟩ = some (.int .u8 s2) ∧ Hid (Pl.Ks w gs g r (s1, s2) v)) → Pl.Ks w gs g r (s1, s2) v) := fun v h => h.2.2.2.2.2.2.2.out
  go_cut [29] from 9 to 34 (fun s29 wx => s29 = .bool false ∧ Hid (Pl.Ks w gs g r (s1, s2) wx))
  case first =>
    go_region_held3 (fun v => v.cell? ⟨w.heap.size, 0, none⟩ = some (.int .i64 r.p.fr) ∧ v.cell? ⟨w.heap.size, 1, none⟩ = some (.int .i64 r.p.la) ∧ v.cell? ⟨w.heap.size, 2, none⟩ = some (.string r.p.lt) ∧ v.cell? ⟨w.heap.size, 3, none⟩ = some (.slice r.eA r.p.ex.length r.ec) ∧ v.cell? ⟨w.heap.size, 4, none⟩ = some (.slice r.bA r.p.bl.length r.bc) ∧ v.cell? ⟨gs, 0, none⟩ = some (.int .i64 s1) ∧ v.cell? ⟨gs, 1, none⟩ = some (.int .u8 s2) ∧ Hid (Pl.Ks w gs g r (s1, s2) v)) (first | exact (Pl.Ks.below (HOF.out _ (by assumption)) hbq).cells | exact (HK4.out.below (Below.refl _ _).drew).cells) (first
      | (go_at_call 20; refine (HST.out g _ (HOF.out _ (by assumption)).k).mono ?_; rintro e w5 ⟨A5, c5, rfl, hO5, hbq⟩; obtain ⟨A6, c6, e6, _, hS5⟩ := hO5.sts; injection e6 with e6 _ e7; subst e6; subst e7; have hb5 := hbq; clear hO5)
      | (go_at_call 21; refine (HRS2.out g _ (HOF.out _ (by assumption)).k).mono ?_; rintro e w6 ⟨B5, d5, rfl, hP5, hbq⟩; obtain ⟨A6, c6, e6, _, hT5⟩ := hP5.sts; injection e6 with e6 _ e7; subst e6; subst e7; have hb6 := hbq; clear hP5)
      | (go_at_call 19; refine (HSM.out _ _ _ _ _ (hS5.below hb6 (Nat.le_refl _) |>.more hb6.size) hT5).mono ?_; rintro e w7 ⟨rfl, hbq⟩)
      | (go_at_call 19; refine (HSM.out _ _ _ _ _ hS5 (hT5.below hb5 (Nat.le_refl _) |>.more hb5.size)).mono ?_; rintro e w7 ⟨rfl, hbq⟩))
    all_goals go_wp2
    all_goals go_meet
    all_goals exact ⟨rfl, HOF.out _ (by assumption)⟩
  case rest =>
    obtain ⟨rfl, HK7⟩ := hcut
    obtain ⟨w7, e7⟩ : ∃ x, x = wc := ⟨_, rfl⟩
    subst e7
    go_upto_region 10 with (fail)
    go_cut [7] from 9 to 34 (fun s7 wx => ∃ (A : Option Addr) (c : Nat), s7 = .slice A ((Pl.all r.p).length + 1) c ∧ Hid (Pl.Sts wx wx.heap.size A (Pl.all r.p ++ [(s1, s2)])) ∧ Hid (Pl.Ks w gs g r (s1, s2) wx))
    case first =>
      have hal2 : (Pl.all r.p).length < 100000 := by omega
      have HAL2 := Lib.hid hal2
      clear hal2
      go_region_held3 (fun v => v.cell? ⟨w.heap.size, 0, none⟩ = some (.int .i64 r.p.fr) ∧ v.cell? ⟨w.heap.size, 1, none⟩ = some (.int .i64 r.p.la) ∧ v.cell? ⟨w.heap.size, 2, none⟩ = some (.string r.p.lt) ∧ v.cell? ⟨w.heap.size, 3, none⟩ = some (.slice r.eA r.p.ex.length r.ec) ∧ v.cell? ⟨w.heap.size, 4, none⟩ = some (.slice r.bA r.p.bl.length r.bc) ∧ v.cell? ⟨gs, 0, none⟩ = some (.int .i64 s1) ∧ v.cell? ⟨gs, 1, none⟩ = some (.int .u8 s2) ∧ Hid (Pl.Ks w gs g r (s1, s2) v)) (first | exact (HK7.out.below hb78).cells | exact (Pl.Ks.below (HOF.out _ (by assumption)) hbq).cells | exact (Pl.Ks.below (HOF.out _ (by assumption)) ((Below.refl _ _).alloc (Nat.le_refl _) _)).cells | exact (HK7.out.below (Below.refl _ _).drew).cells) (first
        | (go_at_call 22; refine (HPL2.out _).mono ?_; rintro e w5 ⟨A5, c5, rfl, hO5, hbq⟩)
        | (have hb57 : Below w7.heap.size w7 w5 := (Below.refl _ _).drew.trans hbq; have hle : w7.heap.size ≤ (w5.alloc (.cells #[.int .i64 s1, .int .u8 s2] 23)).heap.size := Nat.le_trans hb57.size (by simp); refine Rw.wp_appendS (.tmp 31) (.tmp 33) rfl w7.heap.size (.slice A5 (Pl.all r.p).length c5) (Pl.all r.p) (s1, s2) (hO5.below ((Below.refl _ _).alloc (Nat.le_refl _) _)) rfl w5.heap.size rfl (Pl.Sc.new (s1, s2) w5) HAL2.out hle ((Pl.all r.p).length + 1) rfl ?_; intro A8 c8 w8 h81 h82 h83; have hb78 : Below w7.heap.size w7 w8 := (hb57.trans (((Below.refl w5.heap.size w5).alloc (Nat.le_refl _) _).mono hb57.size)).trans h82.out)
        | (refine Rw.wp_appendS (.tmp 31) (.tmp 33) rfl _ (.slice A5 (Pl.all r.p).length c5) (Pl.all r.p) (s1, s2) hO5 rfl w7.heap.size rfl ((Pl.Sc.new (s1, s2) w7.drew).below hbq (by simp)) HAL2.out hbq.size ((Pl.all r.p).length + 1) rfl ?_; intro A8 c8 w8 h81 h82 h83; have hb57 : Below w7.heap.size w7 w5 := ((Below.refl w7.heap.size w7).drew.alloc (Nat.le_refl _) _).trans (hbq.mono (by simp)); have hb78 : Below w7.heap.size w7 w8 := hb57.trans (h82.out.mono (by simp))))
      all_goals go_wp2
      all_goals go_meet
      all_goals (obtain ⟨A9, c9, e9, _, hS9⟩ := h81.out.sts; injection e9 with e9 _ e10; subst e9; exact ⟨A8, c8, rfl, hS9, HOF.out _ (by assumption)⟩)
    case rest =>
      obtain ⟨A, c, rfl, HSL, HK8⟩ := hcut
      obtain ⟨w8, e8⟩ : ∃ x, x = wc := ⟨_, rfl⟩
      subst e8
      obtain ⟨L, hL⟩ : ∃ L, L = Pl.all r.p ++ [(s1, s2)] := ⟨_, rfl⟩
      have hLn : (Pl.all r.p).length + 1 = L.length := by rw [hL]; simp
      have hL601 : L.length ≤ 601 := by omega
      have HWL : Hid (∀ k, k < L.length → Pl.WS (Pl.gR L k, Pl.gC L k)) := fun k hk => by
        have hm : (Pl.gR L k, Pl.gC L k) ∈ L := by rw [← Pl.gS L k hk]; exact List.getElem_mem hk
        rw [hL] at hm
        rcases List.mem_append.1 hm with h | h
        · rw [← hL] at h; exact HWS.out _ h
        · rw [← hL, List.mem_singleton] at h; rw [h]; exact HWS1.out
      rw [← hL] at HSL
      rw [hLn]
      clear hL hLn
      go_wp2
      go_loopw [8] (fun i wr => ∃ k : Nat, k ≤ L.length ∧ i = .int .i64 k ∧ Hid (Pl.Ks w gs g r (s1, s2) wr) ∧ Hid (Below w8.heap.size w8 wr)) (fun i _ => L.length - (intOf i).toNat)
      case atStart => exact ⟨0, by omega, rfl, HK8, Below.refl _ _⟩
      case round =>
        obtain ⟨wa, ea⟩ : ∃ x, x = wr := ⟨_, rfl⟩
        subst ea
        obtain ⟨k, hk, rfl, HKa, HBa⟩ := hrel
        by_cases hlt : k < L.length
        · obtain ⟨b, off, eA, hb, hc⟩ := HSL.out (by omega)
          subst eA
          have hba : b < wa.heap.size := Nat.lt_of_lt_of_le hb HBa.out.size
          have HX0 := Lib.hid ((HBa.out.cell (p := ⟨b, off + k * 2, none⟩) hb).trans (hc k hlt).1)
          have HX1 := Lib.hid ((HBa.out.cell (p := ⟨b, off + k * 2 + 1, none⟩) hb).trans (hc k hlt).2)
          have hwx := HWL.out k hlt
          have HHAk := Lib.hid (fun W h => HHA.out (Pl.gR L k, Pl.gC L k) g W h hwx)
          have HNUk := Lib.hid (fun W h => HNU.out (Pl.gR L k, Pl.gC L k) g W h hwx)
          rw [HNX.out] at HNUk
          have HMKk := Lib.hid (fun W h => HMK.out (Pl.gR L k, Pl.gC L k) g W h hwx)
          have HRHk := Lib.hid (fun W h => HRH2.out (Pl.gR L k, Pl.gC L k) g W h)
          have HRMk := Lib.hid (fun W h => HRM2.out (Pl.gR L k, Pl.gC L k) g W h)
          have HATk := Lib.hid (fun A c W h => HAT.out A c (Pl.gR L k, Pl.gC L k) W h)
          have e1 : Pl.sv (Pl.gR L k, Pl.gC L k) = .agg #[.int .i64 (Pl.gR L k), .int .u8 (Pl.gC L k)] := rfl
          rw [e1] at HHAk HNUk HMKk HRHk HRMk HATk
          unfold Pl.AtR at HATk
          clear e1 hwx hc
          generalize Pl.hasS r.p (Pl.gR L k, Pl.gC L k) = hq at *
          generalize Pl.ix (Pl.all r.p) (Pl.gR L k, Pl.gC L k) = nq at *
          generalize Pl.mkS r.p (Pl.gR L k, Pl.gC L k) = mq at *
          generalize Pl.gR L k = xr at *
          generalize Pl.gC L k = xc at *
          have hbh : (hq != hq) = false := by simp
          have hbn : (nq != nq) = false := by simp
          have hbm : (mq.toList != mq.toList) = false := by simp
          have HC2 : Hid (∀ v : World, Below wa.heap.size wa v → v.cell? ⟨w.heap.size, 0, none⟩ = some (.int .i64 r.p.fr) ∧ v.cell? ⟨w.heap.size, 1, none⟩ = some (.int .i64 r.p.la) ∧ v.cell? ⟨w.heap.size, 2, none⟩ = some (.string r.p.lt) ∧ v.cell? ⟨w.heap.size, 3, none⟩ = some (.slice r.eA r.p.ex.length r.ec) ∧ v.cell? ⟨w.heap.size, 4, none⟩ = some (.slice r.bA r.p.bl.length r.bc) ∧ v.cell? ⟨gs, 0, none⟩ = some (.int .i64 s1) ∧ v.cell? ⟨gs, 1, none⟩ = some (.int .u8 s2) ∧ v.cell? ⟨b, off + k * 2, none⟩ = some (.int .i64 xr) ∧ v.cell? ⟨b, off + k * 2 + 1, none⟩ = some (.int .u8 xc) ∧ Hid (Below wa.heap.size wa v ∧ Pl.Ks w gs g r (s1, s2) v)) := fun v hb2 => by
            have h := (HKa.out.below hb2).cells
            exact ⟨h.1, h.2.1, h.2.2.1, h.2.2.2.1, h.2.2.2.2.1, h.2.2.2.2.2.1, h.2.2.2.2.2.2.1, (hb2.cell (p := ⟨b, off + k * 2, none⟩) hba).trans HX0.out, (hb2.cell (p := ⟨b, off + k * 2 + 1, none⟩) hba).trans HX1.out, hb2, HKa.out.below hb2⟩
          have HD2 : Hid (∀ v : World, (v.cell? ⟨w.heap.size, 0, none⟩ = some (.int .i64 r.p.fr) ∧ v.cell? ⟨w.heap.size, 1, none⟩ = some (.int .i64 r.p.la) ∧ v.cell? ⟨w.heap.size, 2, none⟩ = some (.string r.p.lt) ∧ v.cell? ⟨w.heap.size, 3, none⟩ = some (.slice r.eA r.p.ex.length r.ec) ∧ v.cell? ⟨w.heap.size, 4, none⟩ = some (.slice r.bA r.p.bl.length r.bc) ∧ v.cell? ⟨gs, 0, none⟩ = some (.int .i64 s1) ∧ v.cell? ⟨gs, 1, none⟩ = some (.int .u8 s2) ∧ v.cell? ⟨b, off + k * 2, none⟩ = some (.int .i64 xr) ∧ v.cell? ⟨b, off + k * 2 + 1, none⟩ = some (.int .u8 xc) ∧ Hid (Below wa.heap.size wa v ∧ Pl.Ks w gs g r (s1, s2) v)) → Below wa.heap.size wa v) := fun v h => h.2.2.2.2.2.2.2.2.2.out.1
          have HP2 : Hid (∀ v : World, (v.cell? ⟨w.heap.size, 0, none⟩ = some (.int .i64 r.p.fr) ∧ v.cell? ⟨w.heap.size, 1, none⟩ = some (.int .i64 r.p.la) ∧ v.cell? ⟨w.heap.size, 2, none⟩ = some (.string r.p.lt) ∧ v.cell? ⟨w.heap.size, 3, none⟩ = some (.slice r.eA r.p.ex.length r.ec) ∧ v.cell? ⟨w.heap.size, 4, none⟩ = some (.slice r.bA r.p.bl.length r.bc) ∧ v.cell? ⟨gs, 0, none⟩ = some (.int .i64 s1) ∧ v.cell? ⟨gs, 1, none⟩ = some (.int .u8 s2) ∧ v.cell? ⟨b, off + k * 2, none⟩ = some (.int .i64 xr) ∧ v.cell? ⟨b, off + k * 2 + 1, none⟩ = some (.int .u8 xc) ∧ Hid (Below wa.heap.size wa v ∧ Pl.Ks w gs g r (s1, s2) v)) → Pl.Kp w g r v) := fun v h => h.2.2.2.2.2.2.2.2.2.out.2.k
          go_upto_region 14 with (fail)
          go_cut [84] from 35 to 84 (fun s84 wx => s84 = .bool false ∧ Hid (Below wa.heap.size wa wx))
          case first =>
            go_region_held3 (fun v => v.cell? ⟨w.heap.size, 0, none⟩ = some (.int .i64 r.p.fr) ∧ v.cell? ⟨w.heap.size, 1, none⟩ = some (.int .i64 r.p.la) ∧ v.cell? ⟨w.heap.size, 2, none⟩ = some (.string r.p.lt) ∧ v.cell? ⟨w.heap.size, 3, none⟩ = some (.slice r.eA r.p.ex.length r.ec) ∧ v.cell? ⟨w.heap.size, 4, none⟩ = some (.slice r.bA r.p.bl.length r.bc) ∧ v.cell? ⟨gs, 0, none⟩ = some (.int .i64 s1) ∧ v.cell? ⟨gs, 1, none⟩ = some (.int .u8 s2) ∧ v.cell? ⟨b, off + k * 2, none⟩ = some (.int .i64 xr) ∧ v.cell? ⟨b, off + k * 2 + 1, none⟩ = some (.int .u8 xc) ∧ Hid (Below wa.heap.size wa v ∧ Pl.Ks w gs g r (s1, s2) v)) (first | exact HC2.out _ (Below.trans (HD2.out _ (by assumption)) (Below.mono hbq (HD2.out _ (by assumption)).size)) | exact HC2.out _ (Below.refl _ _).drew | assumption) (first
              | (go_at_call 23; refine (HHAk.out _ (HP2.out _ (by assumption))).mono ?_; rintro e v5 ⟨rfl, hbq⟩)
              | (go_at_call 24; refine (HRHk.out _ (HP2.out _ (by assumption))).mono ?_; rintro e v5 ⟨rfl, hbq⟩)
              | (go_at_call 25; refine (HNUk.out _ (HP2.out _ (by assumption))).mono ?_; rintro e v7 ⟨rfl, hbq⟩; have hbn7 := hbq)
              | (go_at_call 22; refine (HPL2.out _).mono ?_; rintro e v6 ⟨A5, c5, rfl, hO5, hbq⟩; obtain ⟨A6, c6, e6, _, hS5⟩ := hO5.sts; injection e6 with e6 _ e7; subst e6; subst e7; clear hO5)
              | (go_at_call 26; refine (HATk.out A5 c5 _ hS5).mono ?_; rintro e v8 ⟨rfl, hbq⟩)
              | (go_at_call 26; refine (HATk.out A5 c5 _ (hS5.below hbn7 (Nat.le_refl _) |>.more hbn7.size)).mono ?_; rintro e v8 ⟨rfl, hbq⟩)
              | (go_at_call 27; refine (HMKk.out _ (HP2.out _ (by assumption))).mono ?_; rintro e v9 ⟨rfl, hbq⟩)
              | (go_at_call 28; refine (HRMk.out _ (HP2.out _ (by assumption))).mono ?_; rintro e v9 ⟨rfl, hbq⟩))
            all_goals go_wp2
            all_goals go_meet
            all_goals exact ⟨rfl, HD2.out _ (by assumption)⟩
          case rest =>
            obtain ⟨rfl, HBx⟩ := hcut
            obtain ⟨wx, ex⟩ : ∃ x, x = wc := ⟨_, rfl⟩
            subst ex
            have HKx := Lib.hid (HKa.out.below HBx.out)
            have HBy := Lib.hid (HBa.out.trans (HBx.out.mono HBa.out.size))
            go_wp2
            go_roundw
            case rel => exact ⟨k + 1, by omega, by go_num, HKx, HBy⟩
            case measure => simp [intOf]; omega
        · have hke : k = L.length := by omega
          go_wp2
          go_ret
          exact ⟨rfl, HKa.out.k.b⟩

end Go.Proofs.YtonfkonjkgalhaaDoor
