/- The statement WalTurned: where a byte of a record's first piece was turned, the records ahead of it are found, and none from it on; for all sizes, places and masks, without condition. -/
import Derived.Test.YtogkaoiiddhdbaaTrn
namespace Go.Proofs.Ytogkaoiiddhdbaa
open Go.ChangeShapes Go.WideShapes Go.ChangeAt Go.RowKit
set_option linter.unusedVariables false

namespace Wl
structure TS (w0 : World) (wr : World) (q p : Nat) (A' : Option Addr) (c' m u kk : Nat) (bg wh : Int) (t : L) (W : List (List UInt8)) : Prop where
  good : Good 60 t
  fu : t.d.fused = false
  g1 : t.g = 1
  um : u = 31 + needs t.rs
  km : kk = t.rs.length
  mm : m = W.length
  own : OwnT wr w0.heap.size (.slice A' m c') W
  live : LiveL w0 (Blk (.slice A' m c')) wr q p t
  bw : (bg = -1 ∧ W = t.rs ∧ ¬ (0 ≤ wh ∧ wh < (kk : Int))) ∨ ∃ v : Nat, wh = (v : Int) ∧ v < t.rs.length ∧ bg = ((31 + needs (t.rs.take v) : Nat) : Int) ∧ W = t.rs.take v
theorem first_60 : first 60 1 = 31 := rfl
theorem area_60 : area 60 = 29 := rfl
end Wl
set_option maxRecDepth 8000 in
set_option maxHeartbeats 2000000 in
theorem turned_core (w : World) (A : Option Addr) (zs : List Int) (c : Nat) (wh at_ : Int) (mk : UInt8) (hI : Dk.Ints w (· < w.heap.size) A zs) (hl : zs.length ≤ 12) (hwf : ∀ n ∈ zs, (Lit.int .i64 n).wf = true) (hwh0 : -9223372036854775808 ≤ wh) (hwh1 : wh ≤ 9223372036854775807) (hat0 : -9223372036854775808 ≤ at_) (hat1 : at_ ≤ 9223372036854775807) :
    Calls Try.prog 8 #[.slice A zs.length c, .int .i64 wh, .int .i64 at_, .int .u8 (mk.toNat : Int)] w fun e w' => e = .returned (.bool true) ∧ Below w.heap.size w w' := by
  have HI := Lib.hid hI
  have HWF := Lib.hid hwf
  obtain ⟨_, _, _, g0, g1, g2, g3⟩ := Wl.open_new 60 (by omega)
  have HBG := Lib.hid (fun w1 => begun_nil w1 60 (by omega) (by omega))
  have HS0 : Hid (∀ w1 w2 q p, Wl.LiveL w1 (fun _ => False) w2 q p (Wl.opened (Dk.S.new ((60 : Nat) : Int))) → Wl.TS w1 w2 q p none 0 0 31 0 (-1) wh (Wl.opened (Dk.S.new ((60 : Nat) : Int))) []) := fun w1 w2 q p hL =>
    ⟨g0, g3, g2, by rw [g1]; rfl, by rw [g1]; rfl, rfl, Wl.OwnT.nil _ _, hL.fewer (fun k hk => by cases hk), .inl ⟨rfl, g1.symm, by simp only [Int.ofNat_zero]; omega⟩⟩
  generalize Wl.opened (Dk.S.new ((60 : Nat) : Int)) = t0 at *
  clear hI hwf g0 g1 g2 g3
  have hd100 : decide ((12 : Int) < (zs.length : Int)) = false := decide_eq_false (by omega)
  go_enter Try.func8, Try.ntmps8
  go_wp2_with (first
    | (go_at_call 10; refine (awake_any _).mono ?_; rintro e w1 ⟨rfl, hbw⟩)
    | (go_at_call 33; refine (HBG.out _).mono ?_; rintro e w2 ⟨q, p, rfl, HL2⟩))
  have hs1 := hbw.size
  go_loopw [12, 13, 14, 15, 16] (fun wa pl be ks i wr => ∃ (j u kk m : Nat) (A1 : Option Addr) (c1 : Nat) (bg : Int) (t : Wl.L) (W : List (List UInt8)), j ≤ zs.length ∧ i = .int .i64 j ∧ pl = .int .i64 u ∧ be = .int .i64 bg ∧ ks = .int .i64 kk ∧ wa = .slice A1 m c1 ∧ Hid (Wl.TS w1 wr q p A1 c1 m u kk bg wh t W)) (fun _ _ _ _ i _ => zs.length - (intOf i).toNat)
  case atStart => exact ⟨0, 31, 0, 0, none, 0, -1, t0, [], by omega, rfl, rfl, rfl, rfl, rfl, HS0.out w1 w2 q p HL2.out⟩
  case round =>
    obtain ⟨j, u, kk, m, A1, c1, bg, t, W, hj, rfl, rfl, rfl, rfl, rfl, HF⟩ := hrel
    have hbr : Below w.heap.size w wr := hbw.trans (HF.out.live.bl.mono hs1)
    have HFT := Lib.hid (HF.out.good.fits (by omega))
    have hm5 : m ≤ 5000 := by
      rw [HF.out.mm]
      rcases HF.out.bw with ⟨_, e, _⟩ | ⟨v, _, _, _, e⟩
      · rw [e]; exact HFT.out.rs
      · rw [e, List.length_take]; have := HFT.out.rs; omega
    have hu : u ≤ 60 := by
      have := HF.out.good.fit
      rw [Wl.area_60] at this
      rw [HF.out.um]
      omega
    have hkk : kk ≤ 5000 := by rw [HF.out.km]; exact HFT.out.rs
    by_cases hlt : j < zs.length
    · obtain ⟨bI, offI, rfl, hBI, hcI⟩ := HI.out (by omega)
      have hcz : wr.cell? ⟨bI, offI + j, none⟩ = some (.int .i64 zs[j]) := (hbr.cell (p := ⟨bI, offI + j, none⟩) hBI).trans (hcI j hlt)
      have hcz2 : ∀ o : Obj, (wr.alloc o).cell? ⟨bI, offI + j, none⟩ = some (.int .i64 zs[j]) := fun o => (World.cell?_alloc_lt _ _ _ (Nat.lt_of_lt_of_le hBI hbr.size)).trans hcz
      clear hcI
      have hzb := bounds_i64 (HWF.out zs[j] (List.getElem_mem hlt))
      generalize zs[j] = x at *
      obtain ⟨z, hz⟩ : ∃ z, Wl.clampR (min x 1500) = z := ⟨_, rfl⟩
      have hz1 : z ≤ 1500 := by rw [← hz]; unfold Wl.clampR; split <;> (try split) <;> omega
      have HZ := Lib.hid hz
      obtain ⟨nd, hnd0⟩ : ∃ nd, nd = Wl.need z := ⟨_, rfl⟩
      have HNZ := Lib.hid hnd0
      have hnd1 : nd ≤ 30 := by rw [hnd0]; unfold Wl.need; omega
      have HND : Hid (∀ w1, Calls Try.prog 11 #[.int .i64 (z : Int)] w1 fun e w' => e = .returned (.int .i64 (nd : Int)) ∧ w1 = w') := fun w1 => by
        have := need_any z w1 (by omega)
        rw [← hnd0] at this
        exact this
      have hop := HF.out.good.op
      have hrm := HF.out.good.rm
      rw [Wl.area_60] at hrm
      clear hz hnd0
      by_cases hfull : t.room < (nd : Int)
      · have HAP : Hid (∀ b : List UInt8, b.length = z → t.acode b = 6 ∧ t.append b = t) := fun b hb => Wl.append_full hop (by omega) (by rw [hb, ← HNZ.out]; exact hfull)
        have HF2 : Hid (∀ wc, Wl.LiveL w1 (Wl.Blk (.slice A1 m c1)) wc q p t → Dk.Same (Wl.Blk (.slice A1 m c1)) wr wc → Wl.TS w1 wc q p A1 c1 m u kk bg wh t W) := fun wc hL hS => ⟨HF.out.good, HF.out.fu, HF.out.g1, HF.out.um, HF.out.km, HF.out.mm, HF.out.own.same hS, hL, HF.out.bw⟩
        clear hop hrm hfull
        go_wp2_with (first
          | (go_at_call 17; refine (Wl.rec_two _ _ _ _ z (by omega) (by omega) HZ.out).mono ?_; rintro e wb ⟨b, hbz, rfl, HRb, HBb⟩; have HBZ := Lib.hid hbz; clear hbz)
          | (go_at_call 19; refine (Wl.app_step HF.out.live HFT.out HBb.out (by omega) HRb.out HBZ.out (by omega)).mono ?_; rw [(HAP.out b HBZ.out).1]; rintro e wc ⟨rfl, HLc, HSc, HRc⟩)
          | (go_at_call 11; refine (HND.out _).mono ?_; rintro e we ⟨rfl, rfl⟩))
        go_roundw
        case rel => exact ⟨j + 1, u, kk, m, A1, c1, bg, t, W, by omega, by go_num, rfl, rfl, rfl, rfl, HF2.out wc (by rw [(HAP.out b HBZ.out).2] at HLc; exact HLc.out) HSc.out⟩
        case measure => simp [intOf]; omega
      · have HAX : Hid (∀ b : List UInt8, b.length = z → t.acode b = 0 ∧ Wl.Good 60 (t.append b) ∧ (t.append b).rs = t.rs ++ [b] ∧ (t.append b).g = t.g ∧ (t.append b).d.fused = false ∧ (t.append b).room = t.room - Wl.need b.length) := fun b hb => HF.out.good.append0 HF.out.fu (by omega) (by rw [hb, ← HNZ.out]; exact hfull)
        have HAP : Hid (∀ b : List UInt8, b.length = z → t.acode b = 0 ∧ True) := fun b hb => ⟨(HAX.out b hb).1, trivial⟩
        have HTK : Hid (∀ (b : List UInt8) (v : Nat), v ≤ t.rs.length → (t.rs ++ [b]).take v = t.rs.take v) := fun b v hv => List.take_append_of_le_length hv
        have HUM : Hid (∀ b : List UInt8, b.length = z → u + nd = 31 + Wl.needs (t.rs ++ [b])) := fun b hb => by
          rw [Wl.needs_append, Wl.needs_cons, Wl.needs_nil, HF.out.um, hb, ← HNZ.out]
          omega
        have HKM : Hid (∀ b : List UInt8, kk + 1 = (t.rs ++ [b]).length) := fun b => by rw [List.length_append, HF.out.km]; rfl
        clear hop hrm hfull
        by_cases hkw : (kk : Int) = wh
        · -- the record in question
          have hbg : bg = -1 ∧ W = t.rs := by
            rcases HF.out.bw with ⟨e1, e2, _⟩ | ⟨v, e1, e2, _, _⟩
            · exact ⟨e1, e2⟩
            · have := HF.out.km; omega
          have HST : Hid (∀ b : List UInt8, b.length = z → ∀ wc, Wl.LiveL w1 (Wl.Blk (.slice A1 m c1)) wc q p (t.append b) → Dk.Same (Wl.Blk (.slice A1 m c1)) wr wc → Wl.TS w1 wc q p A1 c1 m (u + nd) (kk + 1) (u : Int) wh (t.append b) W) := fun b hb wc hL hS => by
            obtain ⟨k1, k2, k3, k4, k5, k6⟩ := HAX.out b hb
            refine ⟨k2, k5, by rw [k4]; exact HF.out.g1, by rw [k3]; exact HUM.out b hb, by rw [k3]; exact HKM.out b, HF.out.mm, HF.out.own.same hS, hL, .inr ⟨kk, hkw.symm, ?_, ?_, ?_⟩⟩
            · rw [k3, ← HKM.out b]; omega
            · rw [k3, HTK.out b kk (by rw [HF.out.km]; exact Nat.le_refl _), HF.out.km, List.take_length]
              have := HF.out.um
              omega
            · rw [k3, HTK.out b kk (by rw [HF.out.km]; exact Nat.le_refl _), HF.out.km, List.take_length]
              exact hbg.2
          obtain ⟨rfl, _⟩ := hbg
          have hkb : ((kk : Int) == wh) = true := beq_iff_eq.2 hkw
          clear hkw
          go_wp2_with (first
            | (go_at_call 17; refine (Wl.rec_two _ _ _ _ z (by omega) (by omega) HZ.out).mono ?_; rintro e wb ⟨b, hbz, rfl, HRb, HBb⟩; have HBZ := Lib.hid hbz; clear hbz)
            | (go_at_call 19; refine (Wl.app_step HF.out.live HFT.out HBb.out (by omega) HRb.out HBZ.out (by omega)).mono ?_; rw [(HAP.out b HBZ.out).1]; rintro e wc ⟨rfl, HLc, HSc, HRc⟩)
            | (go_at_call 11; refine (HND.out _).mono ?_; rintro e we ⟨rfl, rfl⟩))
          go_roundw
          case rel => exact ⟨j + 1, u + nd, kk + 1, m, A1, c1, (u : Int), t.append b, W, by omega, by go_num, by go_num, rfl, by go_num, rfl, HST.out b HBZ.out wc HLc.out HSc.out⟩
          case measure => simp [intOf]; omega
        · have hkb : ((kk : Int) == wh) = false := beq_eq_false_iff_ne.2 hkw
          by_cases hb0 : bg < 0
          · have hbg : bg = -1 ∧ W = t.rs ∧ ¬ (0 ≤ wh ∧ wh < (kk : Int)) := by
              rcases HF.out.bw with h | ⟨v, _, _, e, _⟩
              · exact h
              · omega
            have HST : Hid (∀ b : List UInt8, b.length = z → ∀ wd A3 c3, Wl.OwnT wd w1.heap.size (.slice A3 (m + 1) c3) (W ++ [b]) → Wl.LiveL w1 (Wl.Blk (.slice A3 (m + 1) c3)) wd q p (t.append b) → Wl.TS w1 wd q p A3 c3 (m + 1) (u + nd) (kk + 1) (-1) wh (t.append b) (W ++ [b])) := fun b hb wd A3 c3 hO hL => by
              obtain ⟨k1, k2, k3, k4, k5, k6⟩ := HAX.out b hb
              refine ⟨k2, k5, by rw [k4]; exact HF.out.g1, by rw [k3]; exact HUM.out b hb, by rw [k3]; exact HKM.out b, by rw [List.length_append, ← HF.out.mm]; rfl, hO, hL, .inl ⟨rfl, by rw [k3, hbg.2.1], ?_⟩⟩
              have := hbg.2.2
              omega
            obtain ⟨rfl, _⟩ := hbg
            clear hkw hb0
            go_wp2_with (first
              | (go_at_call 17; refine (Wl.rec_two _ _ _ _ z (by omega) (by omega) HZ.out).mono ?_; rintro e wb ⟨b, hbz, rfl, HRb, HBb⟩; have HBZ := Lib.hid hbz; clear hbz)
              | (go_at_call 19; refine (Wl.app_step HF.out.live HFT.out HBb.out (by omega) HRb.out HBZ.out (by omega)).mono ?_; rw [(HAP.out b HBZ.out).1]; rintro e wc ⟨rfl, HLc, HSc, HRc⟩; have hcv := Dk.conv HRc.out.bts z; rw [HBZ.out] at hcv; have HOc := Lib.hid (HF.out.own.same HSc.out))
              | (go_at_call 11; refine (HND.out _).mono ?_; rintro e we ⟨rfl, rfl⟩)
              | (at_builtin; refine Wl.wpList_appendF rfl (.tmp 58) (.tmp 61) rfl w1.heap.size _ _ _ b HOc.out rfl wc.heap.size rfl rfl rfl (m + 1) (by rw [List.length_append, ← HF.out.mm]; rfl) (by rw [List.length_append, ← HF.out.mm]; simp; omega) (by have := HLc.out.bl.size; omega) ?_; intro A3 c3 wd HO3 HF3 HK3; have HL3 := Lib.hid (HLc.out.fr HF3.out (fun k hk => (HOc.out.own k hk).1) HK3.out)))
            go_roundw
            case rel => exact ⟨j + 1, u + nd, kk + 1, m + 1, A3, c3, -1, t.append b, W ++ [b], by omega, by go_num, by go_num, rfl, by go_num, rfl, HST.out b HBZ.out wd A3 c3 HO3.out HL3.out⟩
            case measure => simp [intOf]; omega
          · have HST : Hid (∀ b : List UInt8, b.length = z → ∀ wc, Wl.LiveL w1 (Wl.Blk (.slice A1 m c1)) wc q p (t.append b) → Dk.Same (Wl.Blk (.slice A1 m c1)) wr wc → Wl.TS w1 wc q p A1 c1 m (u + nd) (kk + 1) bg wh (t.append b) W) := fun b hb wc hL hS => by
              obtain ⟨k1, k2, k3, k4, k5, k6⟩ := HAX.out b hb
              refine ⟨k2, k5, by rw [k4]; exact HF.out.g1, by rw [k3]; exact HUM.out b hb, by rw [k3]; exact HKM.out b, HF.out.mm, HF.out.own.same hS, hL, ?_⟩
              rcases HF.out.bw with ⟨e, _⟩ | ⟨v, e1, e2, e3, e4⟩
              · omega
              · refine .inr ⟨v, e1, ?_, ?_, ?_⟩
                · rw [k3, List.length_append]; omega
                · rw [k3, HTK.out b v (by omega)]; exact e3
                · rw [k3, HTK.out b v (by omega)]; exact e4
            clear hkw
            go_wp2_with (first
              | (go_at_call 17; refine (Wl.rec_two _ _ _ _ z (by omega) (by omega) HZ.out).mono ?_; rintro e wb ⟨b, hbz, rfl, HRb, HBb⟩; have HBZ := Lib.hid hbz; clear hbz)
              | (go_at_call 19; refine (Wl.app_step HF.out.live HFT.out HBb.out (by omega) HRb.out HBZ.out (by omega)).mono ?_; rw [(HAP.out b HBZ.out).1]; rintro e wc ⟨rfl, HLc, HSc, HRc⟩)
              | (go_at_call 11; refine (HND.out _).mono ?_; rintro e we ⟨rfl, rfl⟩))
            go_roundw
            case rel => exact ⟨j + 1, u + nd, kk + 1, m, A1, c1, bg, t.append b, W, by omega, by go_num, by go_num, rfl, by go_num, rfl, HST.out b HBZ.out wc HLc.out HSc.out⟩
            case measure => simp [intOf]; omega
    · obtain rfl : j = zs.length := by omega
      have hbw2 : Below w.heap.size w wr := hbr
      rcases HF.out.bw with ⟨rfl, _, _⟩ | ⟨v, hv1, hv2, hv3, hv4⟩
      · go_wp2
        go_ret
        exact ⟨rfl, hbw2⟩
      · have hb0 : ¬ bg < 0 := by omega
        by_cases h1 : at_ < 0
        · clear hv1 hv2 hv3 hv4
          go_wp2
          go_ret
          exact ⟨rfl, hbw2⟩
        · by_cases h2 : 512 ≤ at_
          · clear hv1 hv2 hv3 hv4
            go_wp2
            go_ret
            exact ⟨rfl, hbw2⟩
          · by_cases h3 : mk = 0
            · subst h3
              clear hv1 hv2 hv3 hv4
              go_wp2
              go_ret
              exact ⟨rfl, hbw2⟩
            · obtain ⟨a, rfl⟩ := Int.eq_ofNat_of_zero_le (show 0 ≤ at_ by omega)
              have ha : a < 512 := by omega
              have hmk : ((mk.toNat : Int) == 0) = false := beq_eq_false_iff_ne.2 (fun e => h3 (UInt8.toNat_inj.1 (by show _ = 0; omega)))
              obtain ⟨f, hFl, hIn⟩ := HF.out.good.ex
              rw [HF.out.g1] at hIn
              have hfit := HF.out.good.fit
              rw [Wl.area_60] at hfit
              have hnt : Wl.needs (t.rs.take v) ≤ Wl.needs t.rs := Wl.needs_take t.rs v
              obtain ⟨P, hP⟩ : ∃ P, P = 31 + Wl.needs (t.rs.take v) := ⟨_, rfl⟩
              rw [← hP] at hv3
              subst hv3
              have hP60 : P < 60 := by
                have h1 := Wl.needs_append (t.rs.take v) (t.rs.drop v)
                rw [List.take_append_drop] at h1
                have h2 := Wl.length_le_needs (t.rs.drop v)
                rw [List.length_drop] at h2
                omega
              have hnn := HF.out.good.nn
              obtain ⟨S, hS⟩ : ∃ S, S = t.d.get (P : Int) := ⟨_, rfl⟩
              have hSf : S = f (Wl.first 60 1 + Wl.needs (t.rs.take v)) := by rw [hS, hFl.2 P, hP, Wl.first_60]
              have hSl : S.length = 512 := by rw [hSf]; exact hIn.len _
              have hCI := hIn.turned v hv2 a ha mk h3 S hSf hSl
              rw [Wl.first_60, ← hP] at hCI
              obtain ⟨S', hS'⟩ : ∃ S', S' = S.set a (S[a]'(by omega) ^^^ mk) := ⟨_, rfl⟩
              rw [← hS'] at hCI
              have hSl' : S'.length = 512 := by rw [hS', List.length_set]; exact hSl
              obtain ⟨q1, q2, q3, q4, q5⟩ := Wl.write_calm hFl HF.out.good.up HF.out.fu P S' hSl' (by rw [hnn]; omega)
              have hl0 := HF.out.good.l0
              have hl1 := HF.out.good.l1
              have l1 := Dk.write_left (i := (P : Int)) (l := S') hl0
              have l2 := Dk.flush_left (s := t.d.write (P : Int) S') l1.1
              have n1 : (t.d.write (P : Int) S').flush.n = ((60 : Nat) : Int) := by rw [Dk.flush_n, Dk.write_n, hnn]
              obtain ⟨o1, o2⟩ := Wl.open_run (n := 60) q3 n1 q4 l2.1 (by omega) hCI (by omega)
              have o3 : (Wl.begin_ (t.d.write (P : Int) S').flush (Wl.nextOf (t.d.write (P : Int) S').flush) (Wl.found (t.d.write (P : Int) S').flush)).2 = 0 ∧ Wl.Good 60 (Wl.opened (t.d.write (P : Int) S').flush) ∧ (Wl.opened (t.d.write (P : Int) S').flush).rs = t.rs.take v := by
                rcases o2 with ⟨a1, a2, a3, _⟩ | ⟨_, a2, _⟩
                · exact ⟨a1, a2, a3⟩
                · rw [q5] at a2; cases a2
              have hok2 : Dk.Ok (t.d.write (P : Int) S').flush 50000 := ⟨by rw [n1]; decide, by rw [n1]; decide, l2.1, by omega, by rw [q3.1]; simp⟩
              have hw0 : t.d.wait.length < 100000 := by rw [hFl.1]; simp
              have hw1 : (t.d.write (P : Int) S').wait.length < 100000 := by have := Dk.write_wait (s := t.d) (i := (P : Int)) (l := S'); rw [hFl.1] at this; simp at this; omega
              have HRD := Lib.hid (read_live (P : Int) HF.out.live.disk (Dk.has_of (by rw [hnn]; simp; omega)) HF.out.good.up)
              rw [← hS] at HRD
              have HWR : Hid (∀ w4 X blk, Dk.Live w1 X w4 p t.d → X blk → Dk.Row w4 blk 120 S' → Calls Try.prog 29 #[.pointer (some ⟨p, 0, none⟩), .int .i64 (P : Int), .slice (some ⟨blk, 0, none⟩) 512 512] w4 fun e w' => e = .returned (.int .i64 0) ∧ Hid (Dk.Live w1 X w' p (t.d.write (P : Int) S')) ∧ Hid (Dk.Same X w4 w')) := fun w4 X blk hL hX hR => by
                have := write_beside (c := 512) (n := 512) (P : Int) hL (Wl.Bts.mono hR.bts (fun k hk => .inr (hk ▸ hX))) hSl'.symm hw0 hl0 hl1
                rw [hSl', q1] at this
                exact this
              have HFL : Hid (∀ w5 X, Dk.Live w1 X w5 p (t.d.write (P : Int) S') → Calls Try.prog 32 #[.pointer (some ⟨p, 0, none⟩)] w5 fun e w' => e = .returned (.int .i64 0) ∧ Hid (Dk.Live w1 X w' p (t.d.write (P : Int) S').flush) ∧ Hid (Dk.Same X w5 w')) := fun w5 X hL => by
                have := flush_live hL hw1 l1.1 (by omega)
                rw [q2] at this
                exact this
              have HOP : Hid (∀ w6 X, Dk.Live w1 X w6 p (t.d.write (P : Int) S').flush → Calls Try.prog 38 #[.pointer (some ⟨p, 0, none⟩)] w6 fun e w' => Wl.OpenL w1 X w6 p (Wl.opened (t.d.write (P : Int) S').flush) e w') := fun w6 X hL => open_live hL hok2 q4 o1 o3.1
              have HT := Lib.hid (o3.2.1.fits (by omega))
              have HR4 := Lib.hid o3.2.2
              have hml : (t.rs.take v).length ≤ 5000 := by rw [List.length_take]; have := HFT.out.rs; omega
              have HML := Lib.hid hml
              have HV4 := Lib.hid hv4
              have HX8 := Lib.hid (Wd.xor8 (S[a]'(by omega)) mk)
              have HSA : Hid (∀ w3 g, Dk.Row w3 g 120 S → w3.cell? ⟨g, a, none⟩ = some (.int .u8 ((S[a]'(by omega)).toNat : Int)) ∧ w3.frozen? ⟨g, a, none⟩ = false ∧ Dk.Row (w3.setCell ⟨g, a, none⟩ (.int .u8 ((S[a]'(by omega) ^^^ mk).toNat : Int))) g 120 S') := fun w3 g hR => ⟨hR.cell a (by omega), hR.free a, by rw [hS']; exact hR.set a _⟩
              clear hCI o1 o2 o3 hok2 hml hv4 hFl hIn q1 q2 q3 q4 q5 l1 l2 n1 hSf hS hS' hP hnt hfit
              generalize Wl.opened (t.d.write (P : Int) S').flush = T2 at *
              generalize t.rs.take v = V at *
              generalize hse : (S[a]'(by omega)) = sa at *
              generalize hsx : sa ^^^ mk = sx at *
              have hx8 := HX8.out
              clear HX8 hse hsx
              have HX0 : Hid (∀ k, (Wl.Blk (.slice A1 m c1) k ∨ k = wr.heap.size) → w1.heap.size ≤ k) := fun k hk => by
                have h9 := HF.out.live.bl.size
                rcases hk with hk | hk
                · exact (HF.out.own.own k hk).1
                · rw [hk]; exact h9
              have HNE : Hid (∀ k, Wl.Blk (.slice A1 m c1) k → (⟨wr.heap.size, a, none⟩ : Addr).block ≠ k) := fun k hk e => by
                have h9 := (HF.out.own.own k hk).2
                have e' : wr.heap.size = k := e
                omega
              go_wp2_with (first
                | (go_at_call 41; go_loud (refine HRD.out.mono ?_; rintro e w3 ⟨rfl, HL3, HR3, HS3⟩; have HO3 := Lib.hid (HF.out.own.same HS3.out); obtain ⟨cs3, fs3, rs3⟩ := HSA.out w3 _ HR3.out; have HRS := Lib.hid rs3; have HL4 := Lib.hid (HL3.out.fr (Dk.Fr.setCell w3 (p := ⟨wr.heap.size, a, none⟩) (.inr rfl) (.int .u8 (sx.toNat : Int))) HX0.out); have HS4 : Hid (Dk.Same (Wl.Blk (.slice A1 m c1)) w3 (w3.setCell ⟨wr.heap.size, a, none⟩ (.int .u8 (sx.toNat : Int)))) := fun k hk => Below.heap_setCell _ _ _ _ (fun e => HNE.out k hk e.symm); clear rs3 HR3))
                | (go_at_call 29; refine (HWR.out _ _ _ HL4.out (.inr rfl) HRS.out).mono ?_; rintro e w5 ⟨rfl, HL5, HS5⟩)
                | (go_at_call 32; refine (HFL.out _ _ HL5.out).mono ?_; rintro e w6 ⟨rfl, HL6, HS6⟩)
                | (go_at_call 38; refine (HOP.out _ _ HL6.out).mono ?_; rintro e wo ⟨q2, rfl, HLo, HSo⟩; have HWo := Lib.hid ((((HO3.out.same HS4.out).same (fun k hk => HS5.out k (.inl hk))).same (fun k hk => HS6.out k (.inl hk))).same (fun k hk => HSo.out k (.inl hk))))
                | (go_at_call 34; refine (records_live HLo.out HT.out).mono ?_; rw [HR4.out]; rintro e wp ⟨A4, c4, rfl, HR4', hbp⟩)
                | (go_at_call 22; refine (texts_any _ A4 V c4 _ _ HR4'.out.prts (by have := HML.out; omega) rfl).mono ?_; rintro e wq ⟨A5, c5, rfl, HR5, hbq⟩; have hboq := hbp.trans (hbq.mono hbp.size); have HWq := Lib.hid (HWo.out.below hboq))
                | (go_at_call 35; refine (same_any _ A5 A1 V W c5 c1 _ _ _ _ HR5.out.txt HWq.out.txt (by have := HML.out; omega) (by rw [HV4.out]; have := HML.out; omega) rfl HF.out.mm).mono ?_; rw [decide_eq_true HV4.out.symm]; rintro e ws ⟨rfl, hbs⟩; have hbos := hboq.trans (hbs.mono hboq.size); have HLs := Lib.hid (HLo.out.below hbos).1))
              go_ret
              exact ⟨rfl, hbw.trans (HLs.out.bl.mono hs1)⟩
theorem turned_walk (w : World) (A : Option Addr) (zs : List Int) (c : Nat) (hb : Dk.Ints w (· < w.heap.size) A zs ∧ zs.length ≤ 9223372036854775807 ∧ ∀ n ∈ zs, (Lit.int .i64 n).wf = true) (wh : Int) (ww : (Lit.int .i64 wh).wf = true) (at_ : Int) (wa : (Lit.int .i64 at_).wf = true) (mk : Int) (wm : (Lit.int .u8 mk).wf = true) :
    Calls Try.prog 8 #[.slice A zs.length c, .int .i64 wh, .int .i64 at_, .int .u8 mk] w fun e w' => e = .returned (.bool true) ∧ Below w.heap.size w w' := by
  obtain ⟨hI, hl, hwf⟩ := hb
  obtain ⟨m0, m1⟩ := bounds_u8 wm
  by_cases h12 : zs.length ≤ 12
  · have hm : mk = ((UInt8.ofNat mk.toNat).toNat : Int) := by simp [UInt8.toNat_ofNat']; omega
    rw [hm]
    exact turned_core w A zs c wh at_ _ hI h12 hwf (bounds_i64 ww).1 (bounds_i64 ww).2 (bounds_i64 wa).1 (bounds_i64 wa).2
  · have hd100 : (12 : Int) < (zs.length : Int) := by omega
    clear hI hwf
    go_enter Try.func8, Try.ntmps8
    go_wp2_with (go_at_call 10; refine (awake_any _).mono ?_; rintro e w1 ⟨rfl, hbw⟩)
    go_ret
    exact ⟨rfl, hbw⟩

set_option maxRecDepth 100000 in
theorem walTurned_lifted (os : Os) (started : os.Started) (H : Type) (enc : TypeId × Value → H) :
    ReturnsInHanded {} Try.checked os 8 .any (Rows.walTurnedSpec.pre6 enc Try.prog Try.f8 Rows.walTurnedRow.domain false) (Rows.walTurnedSpec.post enc Try.prog Try.f8 false true false false) := by
  refine returnsInHanded_of_change (C := Try.checked) own started (by kernel_rfl) Try.func8
    (ChangeSpec.witness6 (enc := enc) (C := Try.checked) false ⟨#[], #[.slice none 0 0, .int .i64 0, .int .i64 0, .int .u8 0], []⟩ 8 (by kernel_rfl) (by kernel_rfl) (by kernel_rfl) (by kernel_rfl)) ?_
  intro W base args ds gs before hval0 hW hcnd _
  have hval : ∀ (j : Nat) t v, Try.f8.params[j]? = some t → args[j]? = some v → Value.okWide Try.prog W .any base t v := hval0
  have hW' := hW
  obtain ⟨p, q, hA0, hV, rfl, hfz, hnd⟩ := hW
  have hA : DataW.TrodAll enc Try.prog W 0 (fun _ => true) true Try.f8.params.toList args.toList ds p := hA0
  rw [Try.params8] at hA hval
  obtain ⟨v0, vs0, d0, ds0, p0, q0, hargs, rfl, rfl, h0, r0⟩ := trodAll_cons hA
  obtain ⟨v1, vs1, d1, ds1, p1, q1, rfl, rfl, rfl, h1, r1⟩ := trodAll_cons r0
  obtain ⟨v2, vs2, d2, ds2, p2, q2, rfl, rfl, rfl, h2, r2⟩ := trodAll_cons r1
  obtain ⟨v3, vs3, d3, ds3, p3, q3, rfl, rfl, rfl, h3, r3⟩ := trodAll_cons r2
  obtain ⟨rfl, rfl, rfl⟩ := trodAll_nil r3
  obtain rfl : args = #[v0, v1, v2, v3] := by cases args; simp_all
  obtain ⟨rfl, rfl⟩ := trodVars_none hV
  obtain ⟨a0, len0, cap0, rfl⟩ := okWide_slice Try.underlying76 (hval 0 76 v0 rfl rfl)
  have k0 := h0
  have lt0 : ∀ x ∈ p0, x.block < W.heap.size := by obtain ⟨m, hm⟩ := k0; exact DataW.trod_lt m _ _ _ hm
  obtain ⟨fuel0, hf0⟩ := h0
  obtain ⟨A0, l0, c0, hcs0, b0⟩ := Dk.trod_ints hf0
  simp only [Value.cells, List.cons.injEq, and_true, Value.slice.injEq] at hcs0
  obtain ⟨rfl, rfl, rfl⟩ := hcs0
  obtain ⟨a1, rfl, rfl, rfl, w1⟩ := open_int Try.underlying3 (hval 1 3 v1 rfl rfl) h1
  obtain ⟨a2, rfl, rfl, rfl, w2⟩ := open_int Try.underlying3 (hval 2 3 v2 rfl rfl) h2
  obtain ⟨a3, rfl, rfl, rfl, w3⟩ := open_int Try.underlying5 (hval 3 5 v3 rfl rfl) h3
  clear hA0 hval0
  refine (turned_walk W _ l0 _ b0 a1 w1 a2 w2 a3 w3).mono fun e W' ⟨he, bel⟩ => ?_
  subst he
  exact ⟨_, rfl, _, _, _, [], _, [], hW', trodAll_mk1 (shut_bool Try.underlying4 _), (trodAll_cons_mk (Below.trod laidOut (by kernel_rfl) (of_decide_eq_true (by kernel_rfl)) k0 bel lt0) (trodAll_cons_mk (shut_int Try.underlying3 w1) (trodAll_cons_mk (shut_int Try.underlying3 w2) (trodAll_cons_mk (shut_int Try.underlying5 w3) (trodAll_mk0))))), rfl, bel.frame _, fun h => by cases h⟩

/-- The statement WalTurned. -/
theorem walTurned_holds : Rows.WalTurnedSaid :=
  OpenClaim.holds_of_wide 8 Try.f8 rfl rfl rfl rfl rfl rfl rfl ⟨rfl, rfl, rfl, rfl, rfl⟩ rfl rfl rfl rfl rfl (by kernel_rfl) Try.func8 (by kernel_rfl)
    (of_decide_eq_true (by kernel_rfl)) (by unfold Func.isWrapper; first | (rw [if_pos (by decide +kernel)]; kernel_rfl) | (rw [if_neg (by decide +kernel)]; exact ⟨rfl, rfl⟩))
    (fun os started H enc _ => walTurned_lifted os started H enc)
#print axioms walTurned_holds

end Go.Proofs.Ytogkaoiiddhdbaa
