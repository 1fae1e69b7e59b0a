/- The statement WalFull: records are taken just as long as the sectors that they need are no more than an area has, for every number of sectors and all sizes, without condition. -/
import Derived.Test.YtogkaoiiddhdbaaFst
namespace Go.Proofs.Ytogkaoiiddhdbaa
open Go.ChangeShapes Go.WideShapes Go.ChangeAt Go.RowKit
set_option linter.unusedVariables false

namespace Wl
structure FS (w0 : World) (n : Nat) (wr : World) (q p : Nat) (A' : Option Addr) (c' m u : Nat) (t : L) : Prop where
  good : Good n t
  fu : t.d.fused = false
  g1 : t.g = 1
  um : u = needs t.rs
  mm : m = t.rs.length
  own : OwnT wr w0.heap.size (.slice A' m c') t.rs
  live : LiveL w0 (Blk (.slice A' m c')) wr q p t
end Wl
set_option maxRecDepth 8000 in
set_option maxHeartbeats 4000000 in
theorem full_core (n : Nat) (h4 : 4 ≤ n) (h60 : n ≤ 60) (A : Option Addr) (zs : List Int) (c : Nat) (w : World) (hI : Dk.Ints w (· < w.heap.size) A zs) (hl : zs.length ≤ 100) (hwf : ∀ n ∈ zs, (Lit.int .i64 n).wf = true) :
    Calls Try.prog 7 #[.int .i64 (n : Int), .slice A zs.length c] w fun e w' => e = .returned (.bool true) ∧ Below w.heap.size w w' := by
  have HI := Lib.hid hI
  have HWF := Lib.hid hwf
  obtain ⟨_, _, _, g0, g1, g2, g3⟩ := Wl.open_new n h4
  have HBG := Lib.hid (fun w1 => begun_nil w1 n h4 h60)
  have har2 : ((n : Int) - 2) / 2 = (Wl.area n : Int) := by unfold Wl.area; omega
  have hart : ((n : Int) - 2).tdiv 2 = (Wl.area n : Int) := by rw [Int.tdiv_eq_ediv_of_nonneg (by omega)]; exact har2
  have har3 : Wl.area n ≤ 60 := by unfold Wl.area; omega
  have HS0 : Hid (∀ w1 w2 q p, Wl.LiveL w1 (fun _ => False) w2 q p (Wl.opened (Dk.S.new (n : Int))) → Wl.FS w1 n w2 q p none 0 0 0 (Wl.opened (Dk.S.new (n : Int)))) := fun w1 w2 q p hL =>
    ⟨g0, g3, g2, by rw [g1]; rfl, by rw [g1]; rfl, by rw [g1]; exact Wl.OwnT.nil _ _, hL.fewer (fun k hk => by cases hk)⟩
  generalize Wl.opened (Dk.S.new (n : Int)) = t0 at *
  clear hI hwf g0 g1 g2 g3
  generalize har : Wl.area n = ar at *
  have HAR := Lib.hid har
  clear har
  have h4i : ¬ (n : Int) < 4 := by omega
  have hd100 : decide ((100 : Int) < (zs.length : Int)) = false := decide_eq_false (by omega)
  go_enter Try.func7, Try.ntmps7
  go_wp2_with (first
    | (go_at_call 10; refine (awake_any _).mono ?_; rintro e w1 ⟨rfl, hbw⟩)
    | (go_at_call 33; refine (HBG.out _).mono ?_; rintro e w2 ⟨q, p, rfl, HL2⟩))
  have hs1 := hbw.size
  go_loopw [8, 9, 10] (fun us wa i wr => ∃ (j u m : Nat) (A1 : Option Addr) (c1 : Nat) (t : Wl.L), j ≤ zs.length ∧ i = .int .i64 j ∧ us = .int .i64 u ∧ wa = .slice A1 m c1 ∧ Hid (Wl.FS w1 n wr q p A1 c1 m u t)) (fun _ _ i _ => zs.length - (intOf i).toNat)
  case atStart => exact ⟨0, 0, 0, none, 0, t0, by omega, rfl, rfl, rfl, HS0.out w1 w2 q p HL2.out⟩
  case round =>
    obtain ⟨j, u, m, A1, c1, t, hj, rfl, rfl, rfl, HF⟩ := hrel
    have hbr : Below w.heap.size w wr := hbw.trans (HF.out.live.bl.mono hs1)
    have HFT := Lib.hid (HF.out.good.fits (by omega))
    have hm5 : m ≤ 5000 := by rw [HF.out.mm]; exact HFT.out.rs
    have hu : u ≤ ar := by rw [HF.out.um, ← HAR.out]; exact HF.out.good.fit
    by_cases hlt : j < zs.length
    · obtain ⟨bI, offI, rfl, hBI, hcI⟩ := HI.out (by omega)
      have hcz : wr.cell? ⟨bI, offI + j, none⟩ = some (.int .i64 zs[j]) := (hbr.cell (p := ⟨bI, offI + j, none⟩) hBI).trans (hcI j hlt)
      have hcz2 : ∀ o : Obj, (wr.alloc o).cell? ⟨bI, offI + j, none⟩ = some (.int .i64 zs[j]) := fun o => (World.cell?_alloc_lt _ _ _ (Nat.lt_of_lt_of_le hBI hbr.size)).trans hcz
      clear hcI
      have hzb := bounds_i64 (HWF.out zs[j] (List.getElem_mem hlt))
      generalize zs[j] = x at *
      obtain ⟨z, hz⟩ : ∃ z, Wl.clampR x = z := ⟨_, rfl⟩
      have hz1 : z ≤ 10000 := by rw [← hz]; exact Wl.clampR_le x
      have HZ := Lib.hid hz
      obtain ⟨nd, hnd0⟩ : ∃ nd, nd = Wl.need z := ⟨_, rfl⟩
      have HND := Lib.hid hnd0
      have hnd1 : nd ≤ 30 := by rw [hnd0]; unfold Wl.need; omega
      have HF2 : Hid (∀ wc, Wl.LiveL w1 (Wl.Blk (.slice A1 m c1)) wc q p t → Dk.Same (Wl.Blk (.slice A1 m c1)) wr wc → Wl.FS w1 n wc q p A1 c1 m u t) := fun wc hL hS => ⟨HF.out.good, HF.out.fu, HF.out.g1, HF.out.um, HF.out.mm, HF.out.own.same hS, hL⟩
      have hop := HF.out.good.op
      have hrm := HF.out.good.rm
      rw [← HF.out.um, HAR.out] at hrm
      clear hz hnd0
      by_cases hlong : 8192 < z
      · have HAP : Hid (∀ b : List UInt8, b.length = z → t.acode b = 2 ∧ t.append b = t) := fun b hb => Wl.append_long hop (by omega)
        have hli : (8192 : Int) < (z : Int) := by omega
        clear hop hrm
        rcases Nat.eq_zero_or_pos z with hz0 | hz0
        · omega
        · obtain ⟨kq, hkq⟩ : ∃ kq, z / 491 = kq := ⟨_, rfl⟩
          have hq : (z : Int) / 491 = (kq : Int) := by omega
          have hkl : kq ≤ 30 := by omega
          by_cases hzm : z % 491 = 0
          · have hnd : nd = kq := by rw [HND.out, ← hkq]; exact (Wl.need_eq z).1 ⟨hz0, hzm⟩
            have hzi : ((z : Int) % 491 == 0) = true := beq_iff_eq.2 (by omega)
            subst hnd
            clear hzm hkq
            go_wp2_with (first
              | (go_at_call 17; go_loud (refine (Wl.rec_two _ _ _ _ z (by omega) (by omega) HZ.out).mono ?_); rintro e wb ⟨b, hbz, rfl, HRb, HBb⟩; have HBZ := Lib.hid hbz; clear hbz)
              | (go_at_call 19; refine (Wl.app_step HF.out.live HFT.out HBb.out (by omega) HRb.out HBZ.out (by omega)).mono ?_; rw [(HAP.out b HBZ.out).1]; rintro e wc ⟨rfl, HLc, HSc, HRc⟩)
  )
            go_roundw
            case rel => exact ⟨j + 1, u, m, A1, c1, t, by omega, by go_num, rfl, rfl, HF2.out wc (by rw [(HAP.out b HBZ.out).2] at HLc; exact HLc.out) HSc.out⟩
            case measure => simp [intOf]; omega
          · have hnd : nd = kq + 1 := by rw [HND.out, ← hkq]; exact (Wl.need_eq z).2 (by omega)
            have hzi : ((z : Int) % 491 == 0) = false := beq_eq_false_iff_ne.2 (by omega)
            subst hnd
            clear hzm hkq
            go_wp2_with (first
              | (go_at_call 17; go_loud (refine (Wl.rec_two _ _ _ _ z (by omega) (by omega) HZ.out).mono ?_); rintro e wb ⟨b, hbz, rfl, HRb, HBb⟩; have HBZ := Lib.hid hbz; clear hbz)
              | (go_at_call 19; refine (Wl.app_step HF.out.live HFT.out HBb.out (by omega) HRb.out HBZ.out (by omega)).mono ?_; rw [(HAP.out b HBZ.out).1]; rintro e wc ⟨rfl, HLc, HSc, HRc⟩)
  )
            go_roundw
            case rel => exact ⟨j + 1, u, m, A1, c1, t, by omega, by go_num, rfl, rfl, HF2.out wc (by rw [(HAP.out b HBZ.out).2] at HLc; exact HLc.out) HSc.out⟩
            case measure => simp [intOf]; omega
      · have hli : ¬ (8192 : Int) < (z : Int) := by omega
        by_cases hfull : ar < u + nd
        · have HAP : Hid (∀ b : List UInt8, b.length = z → t.acode b = 6 ∧ t.append b = t) := fun b hb => Wl.append_full hop (by omega) (by rw [hb, ← HND.out, hrm]; omega)
          have hfi : (ar : Int) < (u : Int) + (nd : Int) := by omega
          clear hop hrm
          rcases Nat.eq_zero_or_pos z with hz0 | hz0
          · have hnd : nd = 1 := by have := (Wl.need_eq z).2 (by omega); rw [HND.out, this, hz0]
            subst hnd
            subst hz0
            go_wp2_with (first
              | (go_at_call 17; go_loud (refine (Wl.rec_two _ _ _ _ 0 (by omega) (by omega) HZ.out).mono ?_); rintro e wb ⟨b, hbz, rfl, HRb, HBb⟩; have HBZ := Lib.hid hbz; clear hbz)
              | (go_at_call 19; refine (Wl.app_step HF.out.live HFT.out HBb.out (by omega) HRb.out HBZ.out (by omega)).mono ?_; rw [(HAP.out b HBZ.out).1]; rintro e wc ⟨rfl, HLc, HSc, HRc⟩)
  )
            go_roundw
            case rel => exact ⟨j + 1, u, m, A1, c1, t, by omega, by go_num, rfl, rfl, HF2.out wc (by rw [(HAP.out b HBZ.out).2] at HLc; exact HLc.out) HSc.out⟩
            case measure => simp [intOf]; omega
          · obtain ⟨kq, hkq⟩ : ∃ kq, z / 491 = kq := ⟨_, rfl⟩
            have hq : (z : Int) / 491 = (kq : Int) := by omega
            have hkl : kq ≤ 30 := by omega
            by_cases hzm : z % 491 = 0
            · have hnd : nd = kq := by rw [HND.out, ← hkq]; exact (Wl.need_eq z).1 ⟨hz0, hzm⟩
              have hzi : ((z : Int) % 491 == 0) = true := beq_iff_eq.2 (by omega)
              subst hnd
              clear hzm hkq
              go_wp2_with (first
                | (go_at_call 17; go_loud (refine (Wl.rec_two _ _ _ _ z (by omega) (by omega) HZ.out).mono ?_); rintro e wb ⟨b, hbz, rfl, HRb, HBb⟩; have HBZ := Lib.hid hbz; clear hbz)
                | (go_at_call 19; refine (Wl.app_step HF.out.live HFT.out HBb.out (by omega) HRb.out HBZ.out (by omega)).mono ?_; rw [(HAP.out b HBZ.out).1]; rintro e wc ⟨rfl, HLc, HSc, HRc⟩)
    )
              go_roundw
              case rel => exact ⟨j + 1, u, m, A1, c1, t, by omega, by go_num, rfl, rfl, HF2.out wc (by rw [(HAP.out b HBZ.out).2] at HLc; exact HLc.out) HSc.out⟩
              case measure => simp [intOf]; omega
            · have hnd : nd = kq + 1 := by rw [HND.out, ← hkq]; exact (Wl.need_eq z).2 (by omega)
              have hzi : ((z : Int) % 491 == 0) = false := beq_eq_false_iff_ne.2 (by omega)
              subst hnd
              clear hzm hkq
              go_wp2_with (first
                | (go_at_call 17; go_loud (refine (Wl.rec_two _ _ _ _ z (by omega) (by omega) HZ.out).mono ?_); rintro e wb ⟨b, hbz, rfl, HRb, HBb⟩; have HBZ := Lib.hid hbz; clear hbz)
                | (go_at_call 19; refine (Wl.app_step HF.out.live HFT.out HBb.out (by omega) HRb.out HBZ.out (by omega)).mono ?_; rw [(HAP.out b HBZ.out).1]; rintro e wc ⟨rfl, HLc, HSc, HRc⟩)
    )
              go_roundw
              case rel => exact ⟨j + 1, u, m, A1, c1, t, by omega, by go_num, rfl, rfl, HF2.out wc (by rw [(HAP.out b HBZ.out).2] at HLc; exact HLc.out) HSc.out⟩
              case measure => simp [intOf]; omega
        · have hfi : ¬ (ar : Int) < (u : Int) + (nd : Int) := by omega
          have HAX : Hid (∀ b : List UInt8, b.length = z → t.acode b = 0 ∧ Wl.Good n (t.append b) ∧ (t.append b).rs = t.rs ++ [b] ∧ (t.append b).g = t.g ∧ (t.append b).d.fused = false ∧ (t.append b).room = t.room - Wl.need b.length) := fun b hb => HF.out.good.append0 HF.out.fu (by omega) (by rw [hb, ← HND.out, hrm]; omega)
          have HAP : Hid (∀ b : List UInt8, b.length = z → t.acode b = 0 ∧ True) := fun b hb => ⟨(HAX.out b hb).1, trivial⟩
          have HRO : Hid (∀ b : List UInt8, b.length = z → ∀ wd X, Wl.LiveL w1 X wd q p (t.append b) → Calls Try.prog 39 #[.pointer (some ⟨q, 0, none⟩)] wd fun e w' => e = .returned (.int .i64 ((ar : Int) - ((u : Int) + (nd : Int)))) ∧ wd = w') := fun b hb wd X hL => by
            have := room_live hL
            rw [(HAX.out b hb).2.2.2.2.2, hb, ← HND.out, hrm, show (ar : Int) - (u : Int) - (nd : Int) = (ar : Int) - ((u : Int) + (nd : Int)) by omega] at this
            exact this
          have HST : Hid (∀ b : List UInt8, b.length = z → ∀ wd A3 c3, Wl.OwnT wd w1.heap.size (.slice A3 (m + 1) c3) (t.rs ++ [b]) → Wl.LiveL w1 (Wl.Blk (.slice A3 (m + 1) c3)) wd q p (t.append b) → Wl.FS w1 n wd q p A3 c3 (m + 1) (u + nd) (t.append b)) := fun b hb wd A3 c3 hO hL => by
            obtain ⟨k1, k2, k3, k4, k5, k6⟩ := HAX.out b hb
            refine ⟨k2, k5, by rw [k4]; exact HF.out.g1, ?_, ?_, by rw [k3]; exact hO, hL⟩
            · rw [k3, Wl.needs_append, Wl.needs_cons, Wl.needs_nil, ← HF.out.um, hb, ← HND.out]
              omega
            · rw [k3, List.length_append, ← HF.out.mm]
              rfl
          clear hop hrm
          rcases Nat.eq_zero_or_pos z with hz0 | hz0
          · have hnd : nd = 1 := by have := (Wl.need_eq z).2 (by omega); rw [HND.out, this, hz0]
            subst hnd
            subst hz0
            go_wp2_with (first
              | (go_at_call 17; go_loud (refine (Wl.rec_two _ _ _ _ 0 (by omega) (by omega) HZ.out).mono ?_); rintro e wb ⟨b, hbz, rfl, HRb, HBb⟩; have HBZ := Lib.hid hbz; clear hbz)
              | (go_at_call 19; refine (Wl.app_step HF.out.live HFT.out HBb.out (by omega) HRb.out HBZ.out (by omega)).mono ?_; rw [(HAP.out b HBZ.out).1]; rintro e wc ⟨rfl, HLc, HSc, HRc⟩; have hcv := Dk.conv HRc.out.bts 0; rw [HBZ.out] at hcv; have HOc := Lib.hid (HF.out.own.same HSc.out))
              | (at_builtin; refine Wl.wpList_appendF rfl (.tmp 85) (.tmp 88) rfl w1.heap.size _ _ _ b HOc.out rfl wc.heap.size rfl rfl rfl (m + 1) (by rw [List.length_append, ← HF.out.mm]; rfl) (by rw [List.length_append, ← HF.out.mm]; simp; omega) (by have := HLc.out.bl.size; omega) ?_; intro A3 c3 wd HO3 HF3 HK3; have HL3 := Lib.hid (HLc.out.fr HF3.out (fun k hk => (HOc.out.own k hk).1) HK3.out); have HRM := Lib.hid (HRO.out b HBZ.out wd _ HL3.out))
              | (go_at_call 39; refine HRM.out.mono ?_; rintro e we ⟨rfl, rfl⟩)
  )
            go_roundw
            case rel => exact ⟨j + 1, u + 1, m + 1, A3, c3, t.append b, by omega, by go_num, by go_num, rfl, HST.out b HBZ.out wd A3 c3 HO3.out HL3.out⟩
            case measure => simp [intOf]; omega
          · obtain ⟨kq, hkq⟩ : ∃ kq, z / 491 = kq := ⟨_, rfl⟩
            have hq : (z : Int) / 491 = (kq : Int) := by omega
            have hkl : kq ≤ 30 := by omega
            by_cases hzm : z % 491 = 0
            · have hnd : nd = kq := by rw [HND.out, ← hkq]; exact (Wl.need_eq z).1 ⟨hz0, hzm⟩
              have hzi : ((z : Int) % 491 == 0) = true := beq_iff_eq.2 (by omega)
              subst hnd
              clear hzm hkq
              go_wp2_with (first
                | (go_at_call 17; go_loud (refine (Wl.rec_two _ _ _ _ z (by omega) (by omega) HZ.out).mono ?_); rintro e wb ⟨b, hbz, rfl, HRb, HBb⟩; have HBZ := Lib.hid hbz; clear hbz)
                | (go_at_call 19; refine (Wl.app_step HF.out.live HFT.out HBb.out (by omega) HRb.out HBZ.out (by omega)).mono ?_; rw [(HAP.out b HBZ.out).1]; rintro e wc ⟨rfl, HLc, HSc, HRc⟩; have hcv := Dk.conv HRc.out.bts z; rw [HBZ.out] at hcv; have HOc := Lib.hid (HF.out.own.same HSc.out))
                | (at_builtin; refine Wl.wpList_appendF rfl (.tmp 85) (.tmp 88) rfl w1.heap.size _ _ _ b HOc.out rfl wc.heap.size rfl rfl rfl (m + 1) (by rw [List.length_append, ← HF.out.mm]; rfl) (by rw [List.length_append, ← HF.out.mm]; simp; omega) (by have := HLc.out.bl.size; omega) ?_; intro A3 c3 wd HO3 HF3 HK3; have HL3 := Lib.hid (HLc.out.fr HF3.out (fun k hk => (HOc.out.own k hk).1) HK3.out); have HRM := Lib.hid (HRO.out b HBZ.out wd _ HL3.out))
                | (go_at_call 39; refine HRM.out.mono ?_; rintro e we ⟨rfl, rfl⟩)
    )
              go_roundw
              case rel => exact ⟨j + 1, u + nd, m + 1, A3, c3, t.append b, by omega, by go_num, by go_num, rfl, HST.out b HBZ.out wd A3 c3 HO3.out HL3.out⟩
              case measure => simp [intOf]; omega
            · have hnd : nd = kq + 1 := by rw [HND.out, ← hkq]; exact (Wl.need_eq z).2 (by omega)
              have hzi : ((z : Int) % 491 == 0) = false := beq_eq_false_iff_ne.2 (by omega)
              subst hnd
              clear hzm hkq
              go_wp2_with (first
                | (go_at_call 17; go_loud (refine (Wl.rec_two _ _ _ _ z (by omega) (by omega) HZ.out).mono ?_); rintro e wb ⟨b, hbz, rfl, HRb, HBb⟩; have HBZ := Lib.hid hbz; clear hbz)
                | (go_at_call 19; refine (Wl.app_step HF.out.live HFT.out HBb.out (by omega) HRb.out HBZ.out (by omega)).mono ?_; rw [(HAP.out b HBZ.out).1]; rintro e wc ⟨rfl, HLc, HSc, HRc⟩; have hcv := Dk.conv HRc.out.bts z; rw [HBZ.out] at hcv; have HOc := Lib.hid (HF.out.own.same HSc.out))
                | (at_builtin; refine Wl.wpList_appendF rfl (.tmp 85) (.tmp 88) rfl w1.heap.size _ _ _ b HOc.out rfl wc.heap.size rfl rfl rfl (m + 1) (by rw [List.length_append, ← HF.out.mm]; rfl) (by rw [List.length_append, ← HF.out.mm]; simp; omega) (by have := HLc.out.bl.size; omega) ?_; intro A3 c3 wd HO3 HF3 HK3; have HL3 := Lib.hid (HLc.out.fr HF3.out (fun k hk => (HOc.out.own k hk).1) HK3.out); have HRM := Lib.hid (HRO.out b HBZ.out wd _ HL3.out))
                | (go_at_call 39; refine HRM.out.mono ?_; rintro e we ⟨rfl, rfl⟩)
    )
              go_roundw
              case rel => exact ⟨j + 1, u + (kq + 1), m + 1, A3, c3, t.append b, by omega, by go_num, by go_num, rfl, HST.out b HBZ.out wd A3 c3 HO3.out HL3.out⟩
              case measure => simp [intOf]; omega
    · obtain rfl : j = zs.length := by omega
      obtain ⟨r1, r2, r3, r4, r5, r6⟩ := HF.out.good.reopen HF.out.fu (by rw [HF.out.g1]; omega)
      have HOP := Lib.hid (open_live HF.out.live.disk (HF.out.good.ok (by omega)) HF.out.good.up r1 r2)
      have HT := Lib.hid (r3.fits (by omega))
      have HR4 := Lib.hid r4
      have HG5 : Hid ((Wl.opened t.d).g = 2) := show _ = _ by rw [r5, HF.out.g1]
      have hml : t.rs.length ≤ 5000 := HFT.out.rs
      have HML := Lib.hid hml
      clear r1 r2 r3 r4 r5 r6 hml
      generalize Wl.opened t.d = T at *
      go_wp2_with (first
        | (go_at_call 38; refine HOP.out.mono ?_; rintro e wo ⟨q2, rfl, HLo, HSo⟩; have HWo := Lib.hid (HF.out.own.same HSo.out))
        | (go_at_call 34; refine (records_live HLo.out HT.out).mono ?_; rw [HR4.out]; rintro e wp ⟨A4, c4, rfl, HR4', hbp⟩)
        | (go_at_call 22; refine (texts_any _ A4 t.rs c4 _ _ HR4'.out.prts (by have := HML.out; omega) rfl).mono ?_; rintro e wq ⟨A5, c5, rfl, HR5, hbq⟩; have hboq := hbp.trans (hbq.mono hbp.size); have HWq := Lib.hid (HWo.out.below hboq))
        | (go_at_call 35; refine (same_any _ A5 A1 t.rs t.rs c5 c1 _ _ _ _ HR5.out.txt HWq.out.txt (by have := HML.out; omega) (by have := HML.out; omega) rfl HF.out.mm).mono ?_; rw [decide_eq_true rfl]; rintro e ws ⟨rfl, hbs⟩; have hbos := hboq.trans (hbs.mono hboq.size); have HLs := Lib.hid (HLo.out.below hbos).1)
        | (go_at_call 40; refine (generation_live HLs.out).mono ?_; rw [HG5.out]; rintro e wt ⟨rfl, rfl⟩))
      go_ret
      exact ⟨rfl, hbw.trans (HLs.out.bl.mono hs1)⟩
theorem full_walk (w : World) (x : Int) (wx : (Lit.int .i64 x).wf = true) (A : Option Addr) (zs : List Int) (c : Nat) (hb : Dk.Ints w (· < w.heap.size) A zs ∧ zs.length ≤ 9223372036854775807 ∧ ∀ n ∈ zs, (Lit.int .i64 n).wf = true) :
    Calls Try.prog 7 #[.int .i64 x, .slice A zs.length c] w fun e w' => e = .returned (.bool true) ∧ Below w.heap.size w w' := by
  obtain ⟨hI, hl, hwf⟩ := hb
  by_cases h100 : zs.length ≤ 100
  · by_cases hx : x < 4 ∨ 60 < x
    · have HN := Lib.hid (fun w1 => begun_no w1 x none 0 0 hx (by omega))
      have hd100 : ¬ (100 : Int) < (zs.length : Int) := by omega
      rcases (show x < 4 ∨ (¬ x < 4 ∧ 60 < x) by omega) with h | ⟨h, h'⟩
      all_goals
        clear hx hI hwf
        go_enter Try.func7, Try.ntmps7
        go_wp2_with (first
          | (go_at_call 10; refine (awake_any _).mono ?_; rintro e w1 ⟨rfl, hbw⟩)
          | (go_at_call 33; refine (HN.out _).mono ?_; rintro e w2 ⟨rfl, hb2⟩))
        go_ret
        exact ⟨rfl, hbw.trans (hb2.out.mono hbw.size)⟩
    · obtain ⟨n, rfl⟩ := Int.eq_ofNat_of_zero_le (show 0 ≤ x by omega)
      exact full_core n (by omega) (by omega) A zs c w hI h100 hwf
  · have hd100 : (100 : Int) < (zs.length : Int) := by omega
    clear hI hwf
    go_enter Try.func7, Try.ntmps7
    go_wp2_with (go_at_call 10; refine (awake_any _).mono ?_; rintro e w1 ⟨rfl, hbw⟩)
    go_ret
    exact ⟨rfl, hbw⟩

set_option maxRecDepth 100000 in
theorem walFull_lifted (os : Os) (started : os.Started) (H : Type) (enc : TypeId × Value → H) :
    ReturnsInHanded {} Try.checked os 7 .any (Rows.walFullSpec.pre6 enc Try.prog Try.f7 Rows.walFullRow.domain false) (Rows.walFullSpec.post enc Try.prog Try.f7 false true false false) := by
  refine returnsInHanded_of_change (C := Try.checked) own started (by kernel_rfl) Try.func7
    (ChangeSpec.witness6 (enc := enc) (C := Try.checked) false ⟨#[], #[.int .i64 0, .slice none 0 0], []⟩ 8 (by kernel_rfl) (by kernel_rfl) (by kernel_rfl) (by kernel_rfl)) ?_
  intro W base args ds gs before hval0 hW hcnd _
  have hval : ∀ (j : Nat) t v, Try.f7.params[j]? = some t → args[j]? = some v → Value.okWide Try.prog W .any base t v := hval0
  have hW' := hW
  obtain ⟨p, q, hA0, hV, rfl, hfz, hnd⟩ := hW
  have hA : DataW.TrodAll enc Try.prog W 0 (fun _ => true) true Try.f7.params.toList args.toList ds p := hA0
  rw [Try.params7] at hA hval
  obtain ⟨v0, vs0, d0, ds0, p0, q0, hargs, rfl, rfl, h0, r0⟩ := trodAll_cons hA
  obtain ⟨v1, vs1, d1, ds1, p1, q1, rfl, rfl, rfl, h1, r1⟩ := trodAll_cons r0
  obtain ⟨rfl, rfl, rfl⟩ := trodAll_nil r1
  obtain rfl : args = #[v0, v1] := by cases args; simp_all
  obtain ⟨rfl, rfl⟩ := trodVars_none hV
  obtain ⟨a0, rfl, rfl, rfl, w0⟩ := open_int Try.underlying3 (hval 0 3 v0 rfl rfl) h0
  obtain ⟨a1, len1, cap1, rfl⟩ := okWide_slice Try.underlying76 (hval 1 76 v1 rfl rfl)
  have k1 := h1
  have lt1 : ∀ x ∈ p1, x.block < W.heap.size := by obtain ⟨m, hm⟩ := k1; exact DataW.trod_lt m _ _ _ hm
  obtain ⟨fuel1, hf1⟩ := h1
  obtain ⟨A1, l1, c1, hcs1, b1⟩ := Dk.trod_ints hf1
  simp only [Value.cells, List.cons.injEq, and_true, Value.slice.injEq] at hcs1
  obtain ⟨rfl, rfl, rfl⟩ := hcs1
  clear hA0 hval0
  refine (full_walk W a0 w0 _ l1 _ b1).mono fun e W' ⟨he, bel⟩ => ?_
  subst he
  exact ⟨_, rfl, _, _, _, [], _, [], hW', trodAll_mk1 (shut_bool Try.underlying4 _), (trodAll_cons_mk (shut_int Try.underlying3 w0) (trodAll_cons_mk (Below.trod laidOut (by kernel_rfl) (of_decide_eq_true (by kernel_rfl)) k1 bel lt1) (trodAll_mk0))), rfl, bel.frame _, fun h => by cases h⟩

/-- The statement WalFull. -/
theorem walFull_holds : Rows.WalFullSaid :=
  OpenClaim.holds_of_wide 7 Try.f7 rfl rfl rfl rfl rfl rfl rfl ⟨rfl, rfl, rfl, rfl, rfl⟩ rfl rfl rfl rfl rfl (by kernel_rfl) Try.func7 (by kernel_rfl)
    (of_decide_eq_true (by kernel_rfl)) (by unfold Func.isWrapper; first | (rw [if_pos (by decide +kernel)]; kernel_rfl) | (rw [if_neg (by decide +kernel)]; exact ⟨rfl, rfl⟩))
    (fun os started H enc _ => walFull_lifted os started H enc)
#print axioms walFull_holds

end Go.Proofs.Ytogkaoiiddhdbaa
