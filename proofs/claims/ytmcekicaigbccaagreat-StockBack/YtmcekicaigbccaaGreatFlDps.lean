/- Departures by each closure, where at most one comes. -/
import Derived.Test.YtmcekicaigbccaaGreatFlClo
namespace Go.Proofs.YtmcekicaigbccaaGreat
open Go.RowKit
set_option linter.unusedVariables false

set_option maxHeartbeats 2000000 in
set_option maxRecDepth 20000 in
theorem depB_one (base p : Nat) (rs : List Fl.R) (day : Int) (g6 g7 : Nat) (c : Fl.R → Bool) (w : World) (h : Fl.Tab w base p rs) (hl : rs.length ≤ 64) (h1 : (Fl.dps rs day c).length ≤ 1)
    (hc : ∀ r ∈ rs, ∀ W, Below w.heap.size w W → Calls Tryz.prog 58 #[Fl.fv r, .pointer (some ⟨g6, 0, none⟩), .pointer (some ⟨g7, 0, none⟩)] W fun e w' => e = .returned (.bool (c r)) ∧ Below W.heap.size W w') :
    Calls Tryz.prog 57 #[.pointer (some ⟨p, 0, none⟩), .int .i64 day, .func (.func 58) #[] #[.pointer (some ⟨g6, 0, none⟩), .pointer (some ⟨g7, 0, none⟩)]] w (Fl.DepIs w rs day c) := by
  obtain ⟨⟨A, cap, m, HB, HO, HM, hm0⟩, hlo, hnod, _⟩ := h
  have HOh := Lib.hid HO
  have HCl := Lib.hid hc
  have H1 := Lib.hid h1
  have HNil : Hid (Fl.Own2 w w.heap.size 0 (.slice none 0 0) []) := Fl.Own2.nil
  have cp : w.cell? ⟨p, 0, none⟩ = some (.slice A rs.length cap) := HB.cell 0
  clear HM hc h1 hnod HB HO
  go_enter Tryz.func57, Tryz.ntmps57
  go_wp2
  go_loopw [7, 15] (fun o i wr => ∃ (k n' : Nat) (A' : Option Addr) (cap' : Nat), k ≤ rs.length ∧ i = .int .i64 k ∧ o = .slice A' n' cap' ∧ Hid (n' = (Fl.dps (rs.take k) day c).length) ∧ Hid (Fl.Own2 wr w.heap.size 0 (.slice A' n' cap') (Fl.dps (rs.take k) day c)) ∧ Hid (∀ q ∈ Fl.dps (rs.take k) day c, Fl.Cls wr w.heap.size q.A q.f.cls) ∧ Hid (Below w.heap.size w wr)) (fun _ i _ => rs.length - (intOf i).toNat)
  case atStart => exact ⟨0, 0, none, 0, by omega, rfl, rfl, (show _ = _ by simp [Fl.dps]), (show Fl.Own2 _ _ _ _ _ by simpa [Fl.dps] using HNil.out), (fun q hq => by simp [Fl.dps] at hq), Below.refl _ _⟩
  case round =>
    obtain ⟨wx, ewx⟩ : ∃ x, x = wr := ⟨_, rfl⟩
    subst ewx
    obtain ⟨k, n', A', cap', hk, rfl, rfl, HN, HD, HC, HBr⟩ := hrel
    have hbw := HBr.out.size
    by_cases hlt : k < rs.length
    · obtain ⟨b, hA, hbB, hrow⟩ := (HOh.out.below HBr.out).at k hlt
      have HR := Lib.hid hrow
      have HW := Lib.hid (HOh.out.wf rs[k] (List.getElem_mem hlt))
      have HCk := Lib.hid (((HOh.out.cls rs[k] (List.getElem_mem hlt)).cls))
      have HClk := Lib.hid (HCl.out rs[k] (List.getElem_mem hlt))
      have HTk := Lib.hid (Fl.dps_take (day := day) (c := c) hlt)
      have HLen : Hid ((Fl.dps (rs.take k) day c).length < 4000) := by
        show _ < _
        have := List.length_filter_le (fun r => Fl.on r.f day && c r) (rs.take k)
        rw [List.length_take] at this
        unfold Fl.dps
        omega
      have hn4 : n' < 4000 := by rw [HN.out]; exact HLen.out
      subst hA
      obtain ⟨d2, hd2⟩ : ∃ x, x = Fl.dps (rs.take (k + 1)) day c := ⟨_, rfl⟩
      rw [← hd2] at HTk
      have HE2 := Lib.hid hd2
      generalize hr : rs[k] = r at *
      generalize Fl.dps (rs.take k) day c = d1 at *
      clear hr hrow hd2
      have HFl := Lib.hid (fun w => flies_any r day w HW.out)
      cases hon : Fl.on r.f day with
      | false =>
        rw [hon] at HFl
        have HT2 : Hid (d2 = d1) := show _ = _ by rw [HTk.out, hon]; simp
        clear hon HTk
        go_wp2_with (first
          | (refine wpList_load_mid rfl 62 _ rfl b (k * 9) rfl (Fl.enc r) _ HR.out Fl.uF Fl.rF Fl.iF ?_)
          | (refine Rw.wpList_alloc rfl 62 rfl (Fl.enc Fl.r0) Fl.zF ?_; intro w2 K2 hb2 hz2; clear hz2)
          | (refine Rw.wpList_store_whole rfl 62 _ _ rfl wx.heap.size rfl (Fl.enc r) rfl _ _ K2 Fl.iF rfl (Fl.enc_one _) ?_; intro w3 K3 f3; have b3 : Below wx.heap.size wx w3 := hb2.trans (f3.below hb2.size (fun k hk => by have : k = wx.heap.size := hk; omega)); have HB3 := Lib.hid b3; have HK3 := Lib.hid K3; obtain ⟨c0, c1, c2, c3, c4, c5, c6, c7, c8⟩ := Fl.encs K3)
          | (go_at_call 67; refine (HFl.out _).mono ?_; rintro e w4 ⟨rfl, hb4⟩; have HB4 := Lib.hid (HB3.out.trans (hb4.mono HB3.out.size)); obtain ⟨d0, d1', d2', d3, d4, d5, d6, d7, d8⟩ := Fl.encs (HK3.out.below' hb4)))
        go_roundw
        case rel => exact ⟨k + 1, n', A', cap', by omega, by go_num, rfl, (show _ = _ by rw [← HE2.out, HT2.out]; exact HN.out), (show Fl.Own2 _ _ _ _ _ by rw [← HE2.out, HT2.out]; exact HD.out.below HB4.out), (fun q hq => by rw [← HE2.out, HT2.out] at hq; exact (HC.out q hq).below HB4.out hbw), HBr.out.trans (HB4.out.mono hbw)⟩
        case measure => simp [intOf]; omega
      | true =>
        rw [hon] at HFl
        cases hcr : c r with
        | false =>
          rw [hcr] at HClk
          have HT2 : Hid (d2 = d1) := show _ = _ by rw [HTk.out, hon, hcr]; simp
          clear hon HTk hcr
          go_wp2_with (first
            | (refine wpList_load_mid rfl 62 _ rfl b (k * 9) rfl (Fl.enc r) _ HR.out Fl.uF Fl.rF Fl.iF ?_)
            | (refine Rw.wpList_alloc rfl 62 rfl (Fl.enc Fl.r0) Fl.zF ?_; intro w2 K2 hb2 hz2; clear hz2)
            | (refine Rw.wpList_store_whole rfl 62 _ _ rfl wx.heap.size rfl (Fl.enc r) rfl _ _ K2 Fl.iF rfl (Fl.enc_one _) ?_; intro w3 K3 f3; have b3 : Below wx.heap.size wx w3 := hb2.trans (f3.below hb2.size (fun k hk => by have : k = wx.heap.size := hk; omega)); have HB3 := Lib.hid b3; have HK3 := Lib.hid K3; obtain ⟨c0, c1, c2, c3, c4, c5, c6, c7, c8⟩ := Fl.encs K3)
            | (go_at_call 67; refine (HFl.out _).mono ?_; rintro e w4 ⟨rfl, hb4⟩; have HB4 := Lib.hid (HB3.out.trans (hb4.mono HB3.out.size)); obtain ⟨d0, d1', d2', d3, d4, d5, d6, d7, d8⟩ := Fl.encs (HK3.out.below' hb4))
            | (go_at_call 58; refine (HClk.out _ (HBr.out.trans (HB4.out.mono hbw))).mono ?_; rintro e w5 ⟨rfl, hb5⟩; have HB5 := Lib.hid (HB4.out.trans (hb5.mono HB4.out.size)); have HK5 := Lib.hid ((HK3.out.below' hb4).below' hb5)))
          go_roundw
          case rel => exact ⟨k + 1, n', A', cap', by omega, by go_num, rfl, (show _ = _ by rw [← HE2.out, HT2.out]; exact HN.out), (show Fl.Own2 _ _ _ _ _ by rw [← HE2.out, HT2.out]; exact HD.out.below HB5.out), (fun q hq => by rw [← HE2.out, HT2.out] at hq; exact (HC.out q hq).below HB5.out hbw), HBr.out.trans (HB5.out.mono hbw)⟩
          case measure => simp [intOf]; omega
        | true =>
          rw [hcr] at HClk
          have HT2 : Hid (d2 = d1 ++ [r]) := show _ = _ by rw [HTk.out, hon, hcr]; simp
          clear hon HTk hcr
          go_wp2_with (first
            | (refine wpList_load_mid rfl 62 _ rfl b (k * 9) rfl (Fl.enc r) _ HR.out Fl.uF Fl.rF Fl.iF ?_)
            | (refine Rw.wpList_alloc rfl 62 rfl (Fl.enc Fl.r0) Fl.zF ?_; intro w2 K2 hb2 hz2; clear hz2)
            | (refine Rw.wpList_store_whole rfl 62 _ _ rfl wx.heap.size rfl (Fl.enc r) rfl _ _ K2 Fl.iF rfl (Fl.enc_one _) ?_; intro w3 K3 f3; have b3 : Below wx.heap.size wx w3 := hb2.trans (f3.below hb2.size (fun k hk => by have : k = wx.heap.size := hk; omega)); have HB3 := Lib.hid b3; have HK3 := Lib.hid K3; obtain ⟨c0, c1, c2, c3, c4, c5, c6, c7, c8⟩ := Fl.encs K3)
            | (go_at_call 67; refine (HFl.out _).mono ?_; rintro e w4 ⟨rfl, hb4⟩; have HB4 := Lib.hid (HB3.out.trans (hb4.mono HB3.out.size)); obtain ⟨d0, d1', d2', d3, d4, d5, d6, d7, d8⟩ := Fl.encs (HK3.out.below' hb4))
            | (go_at_call 58; refine (HClk.out _ (HBr.out.trans (HB4.out.mono hbw))).mono ?_; rintro e w5 ⟨rfl, hb5⟩; have HB5 := Lib.hid (HB4.out.trans (hb5.mono HB4.out.size)); have HK5 := Lib.hid ((HK3.out.below' hb4).below' hb5))
            | (refine wpList_load_mid rfl 62 _ rfl wx.heap.size 0 rfl (Fl.enc r) _ HK5.out.range Fl.uF Fl.rF Fl.iF ?_)
            | (refine Fl.wpList_build1 rfl _ rfl r rfl ?_; intro w6 K6 hb6; have HB6 := Lib.hid (HB5.out.trans (hb6.mono HB5.out.size)); have HK6 := Lib.hid K6; have hz56 : w5.heap.size < w6.heap.size := K6.lt; clear K6)
            | (refine Fl.wpList_appendF2 rfl _ _ rfl w.heap.size _ d1 r (HD.out.below HB6.out) (HCk.out.below (HBr.out.trans (HB6.out.mono hbw)) (Nat.le_refl _)) HW.out (fun q hq => (HC.out q hq).below HB6.out hbw) rfl w5.heap.size rfl HK6.out HLen.out (Nat.le_trans hbw HB6.out.size) (n' + 1) (by rw [HN.out]) ?_; intro A7 c7' w7 HO7 HB7 HC7))
          go_roundw
          case rel => exact ⟨k + 1, n' + 1, A7, c7', by omega, by go_num, rfl, (show _ = _ by rw [← HE2.out, HT2.out, List.length_append, HN.out]; rfl), (show Fl.Own2 _ _ _ _ _ by rw [← HE2.out, HT2.out]; exact HO7.out), (fun q hq => by rw [← HE2.out, HT2.out] at hq; exact HC7.out q hq), (HBr.out.trans (HB6.out.mono hbw)).trans HB7.out⟩
          case measure => simp [intOf]; omega
    · have hkn : rs.take k = rs := List.take_of_length_le (by omega)
      rw [hkn] at HN HD HC
      have hn1 : n' ≤ 1 := by rw [HN.out]; exact H1.out
      have HF : Hid (Fl.DepIs w rs day c (.returned (.slice A' n' cap')) wx) := ⟨_, rfl, HD.out, HBr.out⟩
      clear HN HD HC H1 HNil hkn HOh HCl
      go_wp2_with (first
        | (go_at_call 83; refine (stable_one _ _ _ _ _ hn1).mono ?_; rintro e w2 ⟨rfl, rfl⟩))
      go_ret
      exact HF.out
set_option maxHeartbeats 2000000 in
set_option maxRecDepth 20000 in
theorem depF_one (base p : Nat) (rs : List Fl.R) (day : Int) (g6 : Nat) (c : Fl.R → Bool) (w : World) (h : Fl.Tab w base p rs) (hl : rs.length ≤ 64) (h1 : (Fl.dps rs day c).length ≤ 1)
    (hc : ∀ r ∈ rs, ∀ W, Below w.heap.size w W → Calls Tryz.prog 59 #[Fl.fv r, .pointer (some ⟨g6, 0, none⟩)] W fun e w' => e = .returned (.bool (c r)) ∧ Below W.heap.size W w') :
    Calls Tryz.prog 57 #[.pointer (some ⟨p, 0, none⟩), .int .i64 day, .func (.func 59) #[] #[.pointer (some ⟨g6, 0, none⟩)]] w (Fl.DepIs w rs day c) := by
  obtain ⟨⟨A, cap, m, HB, HO, HM, hm0⟩, hlo, hnod, _⟩ := h
  have HOh := Lib.hid HO
  have HCl := Lib.hid hc
  have H1 := Lib.hid h1
  have HNil : Hid (Fl.Own2 w w.heap.size 0 (.slice none 0 0) []) := Fl.Own2.nil
  have cp : w.cell? ⟨p, 0, none⟩ = some (.slice A rs.length cap) := HB.cell 0
  clear HM hc h1 hnod HB HO
  go_enter Tryz.func57, Tryz.ntmps57
  go_wp2
  go_loopw [7, 15] (fun o i wr => ∃ (k n' : Nat) (A' : Option Addr) (cap' : Nat), k ≤ rs.length ∧ i = .int .i64 k ∧ o = .slice A' n' cap' ∧ Hid (n' = (Fl.dps (rs.take k) day c).length) ∧ Hid (Fl.Own2 wr w.heap.size 0 (.slice A' n' cap') (Fl.dps (rs.take k) day c)) ∧ Hid (∀ q ∈ Fl.dps (rs.take k) day c, Fl.Cls wr w.heap.size q.A q.f.cls) ∧ Hid (Below w.heap.size w wr)) (fun _ i _ => rs.length - (intOf i).toNat)
  case atStart => exact ⟨0, 0, none, 0, by omega, rfl, rfl, (show _ = _ by simp [Fl.dps]), (show Fl.Own2 _ _ _ _ _ by simpa [Fl.dps] using HNil.out), (fun q hq => by simp [Fl.dps] at hq), Below.refl _ _⟩
  case round =>
    obtain ⟨wx, ewx⟩ : ∃ x, x = wr := ⟨_, rfl⟩
    subst ewx
    obtain ⟨k, n', A', cap', hk, rfl, rfl, HN, HD, HC, HBr⟩ := hrel
    have hbw := HBr.out.size
    by_cases hlt : k < rs.length
    · obtain ⟨b, hA, hbB, hrow⟩ := (HOh.out.below HBr.out).at k hlt
      have HR := Lib.hid hrow
      have HW := Lib.hid (HOh.out.wf rs[k] (List.getElem_mem hlt))
      have HCk := Lib.hid (((HOh.out.cls rs[k] (List.getElem_mem hlt)).cls))
      have HClk := Lib.hid (HCl.out rs[k] (List.getElem_mem hlt))
      have HTk := Lib.hid (Fl.dps_take (day := day) (c := c) hlt)
      have HLen : Hid ((Fl.dps (rs.take k) day c).length < 4000) := by
        show _ < _
        have := List.length_filter_le (fun r => Fl.on r.f day && c r) (rs.take k)
        rw [List.length_take] at this
        unfold Fl.dps
        omega
      have hn4 : n' < 4000 := by rw [HN.out]; exact HLen.out
      subst hA
      obtain ⟨d2, hd2⟩ : ∃ x, x = Fl.dps (rs.take (k + 1)) day c := ⟨_, rfl⟩
      rw [← hd2] at HTk
      have HE2 := Lib.hid hd2
      generalize hr : rs[k] = r at *
      generalize Fl.dps (rs.take k) day c = d1 at *
      clear hr hrow hd2
      have HFl := Lib.hid (fun w => flies_any r day w HW.out)
      cases hon : Fl.on r.f day with
      | false =>
        rw [hon] at HFl
        have HT2 : Hid (d2 = d1) := show _ = _ by rw [HTk.out, hon]; simp
        clear hon HTk
        go_wp2_with (first
          | (refine wpList_load_mid rfl 62 _ rfl b (k * 9) rfl (Fl.enc r) _ HR.out Fl.uF Fl.rF Fl.iF ?_)
          | (refine Rw.wpList_alloc rfl 62 rfl (Fl.enc Fl.r0) Fl.zF ?_; intro w2 K2 hb2 hz2; clear hz2)
          | (refine Rw.wpList_store_whole rfl 62 _ _ rfl wx.heap.size rfl (Fl.enc r) rfl _ _ K2 Fl.iF rfl (Fl.enc_one _) ?_; intro w3 K3 f3; have b3 : Below wx.heap.size wx w3 := hb2.trans (f3.below hb2.size (fun k hk => by have : k = wx.heap.size := hk; omega)); have HB3 := Lib.hid b3; have HK3 := Lib.hid K3; obtain ⟨c0, c1, c2, c3, c4, c5, c6, c7, c8⟩ := Fl.encs K3)
          | (go_at_call 67; refine (HFl.out _).mono ?_; rintro e w4 ⟨rfl, hb4⟩; have HB4 := Lib.hid (HB3.out.trans (hb4.mono HB3.out.size)); obtain ⟨d0, d1', d2', d3, d4, d5, d6, d7, d8⟩ := Fl.encs (HK3.out.below' hb4)))
        go_roundw
        case rel => exact ⟨k + 1, n', A', cap', by omega, by go_num, rfl, (show _ = _ by rw [← HE2.out, HT2.out]; exact HN.out), (show Fl.Own2 _ _ _ _ _ by rw [← HE2.out, HT2.out]; exact HD.out.below HB4.out), (fun q hq => by rw [← HE2.out, HT2.out] at hq; exact (HC.out q hq).below HB4.out hbw), HBr.out.trans (HB4.out.mono hbw)⟩
        case measure => simp [intOf]; omega
      | true =>
        rw [hon] at HFl
        cases hcr : c r with
        | false =>
          rw [hcr] at HClk
          have HT2 : Hid (d2 = d1) := show _ = _ by rw [HTk.out, hon, hcr]; simp
          clear hon HTk hcr
          go_wp2_with (first
            | (refine wpList_load_mid rfl 62 _ rfl b (k * 9) rfl (Fl.enc r) _ HR.out Fl.uF Fl.rF Fl.iF ?_)
            | (refine Rw.wpList_alloc rfl 62 rfl (Fl.enc Fl.r0) Fl.zF ?_; intro w2 K2 hb2 hz2; clear hz2)
            | (refine Rw.wpList_store_whole rfl 62 _ _ rfl wx.heap.size rfl (Fl.enc r) rfl _ _ K2 Fl.iF rfl (Fl.enc_one _) ?_; intro w3 K3 f3; have b3 : Below wx.heap.size wx w3 := hb2.trans (f3.below hb2.size (fun k hk => by have : k = wx.heap.size := hk; omega)); have HB3 := Lib.hid b3; have HK3 := Lib.hid K3; obtain ⟨c0, c1, c2, c3, c4, c5, c6, c7, c8⟩ := Fl.encs K3)
            | (go_at_call 67; refine (HFl.out _).mono ?_; rintro e w4 ⟨rfl, hb4⟩; have HB4 := Lib.hid (HB3.out.trans (hb4.mono HB3.out.size)); obtain ⟨d0, d1', d2', d3, d4, d5, d6, d7, d8⟩ := Fl.encs (HK3.out.below' hb4))
            | (go_at_call 59; refine (HClk.out _ (HBr.out.trans (HB4.out.mono hbw))).mono ?_; rintro e w5 ⟨rfl, hb5⟩; have HB5 := Lib.hid (HB4.out.trans (hb5.mono HB4.out.size)); have HK5 := Lib.hid ((HK3.out.below' hb4).below' hb5)))
          go_roundw
          case rel => exact ⟨k + 1, n', A', cap', by omega, by go_num, rfl, (show _ = _ by rw [← HE2.out, HT2.out]; exact HN.out), (show Fl.Own2 _ _ _ _ _ by rw [← HE2.out, HT2.out]; exact HD.out.below HB5.out), (fun q hq => by rw [← HE2.out, HT2.out] at hq; exact (HC.out q hq).below HB5.out hbw), HBr.out.trans (HB5.out.mono hbw)⟩
          case measure => simp [intOf]; omega
        | true =>
          rw [hcr] at HClk
          have HT2 : Hid (d2 = d1 ++ [r]) := show _ = _ by rw [HTk.out, hon, hcr]; simp
          clear hon HTk hcr
          go_wp2_with (first
            | (refine wpList_load_mid rfl 62 _ rfl b (k * 9) rfl (Fl.enc r) _ HR.out Fl.uF Fl.rF Fl.iF ?_)
            | (refine Rw.wpList_alloc rfl 62 rfl (Fl.enc Fl.r0) Fl.zF ?_; intro w2 K2 hb2 hz2; clear hz2)
            | (refine Rw.wpList_store_whole rfl 62 _ _ rfl wx.heap.size rfl (Fl.enc r) rfl _ _ K2 Fl.iF rfl (Fl.enc_one _) ?_; intro w3 K3 f3; have b3 : Below wx.heap.size wx w3 := hb2.trans (f3.below hb2.size (fun k hk => by have : k = wx.heap.size := hk; omega)); have HB3 := Lib.hid b3; have HK3 := Lib.hid K3; obtain ⟨c0, c1, c2, c3, c4, c5, c6, c7, c8⟩ := Fl.encs K3)
            | (go_at_call 67; refine (HFl.out _).mono ?_; rintro e w4 ⟨rfl, hb4⟩; have HB4 := Lib.hid (HB3.out.trans (hb4.mono HB3.out.size)); obtain ⟨d0, d1', d2', d3, d4, d5, d6, d7, d8⟩ := Fl.encs (HK3.out.below' hb4))
            | (go_at_call 59; refine (HClk.out _ (HBr.out.trans (HB4.out.mono hbw))).mono ?_; rintro e w5 ⟨rfl, hb5⟩; have HB5 := Lib.hid (HB4.out.trans (hb5.mono HB4.out.size)); have HK5 := Lib.hid ((HK3.out.below' hb4).below' hb5))
            | (refine wpList_load_mid rfl 62 _ rfl wx.heap.size 0 rfl (Fl.enc r) _ HK5.out.range Fl.uF Fl.rF Fl.iF ?_)
            | (refine Fl.wpList_build1 rfl _ rfl r rfl ?_; intro w6 K6 hb6; have HB6 := Lib.hid (HB5.out.trans (hb6.mono HB5.out.size)); have HK6 := Lib.hid K6; have hz56 : w5.heap.size < w6.heap.size := K6.lt; clear K6)
            | (refine Fl.wpList_appendF2 rfl _ _ rfl w.heap.size _ d1 r (HD.out.below HB6.out) (HCk.out.below (HBr.out.trans (HB6.out.mono hbw)) (Nat.le_refl _)) HW.out (fun q hq => (HC.out q hq).below HB6.out hbw) rfl w5.heap.size rfl HK6.out HLen.out (Nat.le_trans hbw HB6.out.size) (n' + 1) (by rw [HN.out]) ?_; intro A7 c7' w7 HO7 HB7 HC7))
          go_roundw
          case rel => exact ⟨k + 1, n' + 1, A7, c7', by omega, by go_num, rfl, (show _ = _ by rw [← HE2.out, HT2.out, List.length_append, HN.out]; rfl), (show Fl.Own2 _ _ _ _ _ by rw [← HE2.out, HT2.out]; exact HO7.out), (fun q hq => by rw [← HE2.out, HT2.out] at hq; exact HC7.out q hq), (HBr.out.trans (HB6.out.mono hbw)).trans HB7.out⟩
          case measure => simp [intOf]; omega
    · have hkn : rs.take k = rs := List.take_of_length_le (by omega)
      rw [hkn] at HN HD HC
      have hn1 : n' ≤ 1 := by rw [HN.out]; exact H1.out
      have HF : Hid (Fl.DepIs w rs day c (.returned (.slice A' n' cap')) wx) := ⟨_, rfl, HD.out, HBr.out⟩
      clear HN HD HC H1 HNil hkn HOh HCl
      go_wp2_with (first
        | (go_at_call 83; refine (stable_one _ _ _ _ _ hn1).mono ?_; rintro e w2 ⟨rfl, rfl⟩))
      go_ret
      exact HF.out
set_option maxHeartbeats 2000000 in
set_option maxRecDepth 20000 in
theorem depS_one (base p : Nat) (rs : List Fl.R) (day : Int) (g6 : Nat) (c : Fl.R → Bool) (w : World) (h : Fl.Tab w base p rs) (hl : rs.length ≤ 64) (h1 : (Fl.dps rs day c).length ≤ 1)
    (hc : ∀ r ∈ rs, ∀ W, Below w.heap.size w W → Calls Tryz.prog 61 #[Fl.fv r, .pointer (some ⟨g6, 0, none⟩)] W fun e w' => e = .returned (.bool (c r)) ∧ Below W.heap.size W w') :
    Calls Tryz.prog 57 #[.pointer (some ⟨p, 0, none⟩), .int .i64 day, .func (.func 61) #[] #[.pointer (some ⟨g6, 0, none⟩)]] w (Fl.DepIs w rs day c) := by
  obtain ⟨⟨A, cap, m, HB, HO, HM, hm0⟩, hlo, hnod, _⟩ := h
  have HOh := Lib.hid HO
  have HCl := Lib.hid hc
  have H1 := Lib.hid h1
  have HNil : Hid (Fl.Own2 w w.heap.size 0 (.slice none 0 0) []) := Fl.Own2.nil
  have cp : w.cell? ⟨p, 0, none⟩ = some (.slice A rs.length cap) := HB.cell 0
  clear HM hc h1 hnod HB HO
  go_enter Tryz.func57, Tryz.ntmps57
  go_wp2
  go_loopw [7, 15] (fun o i wr => ∃ (k n' : Nat) (A' : Option Addr) (cap' : Nat), k ≤ rs.length ∧ i = .int .i64 k ∧ o = .slice A' n' cap' ∧ Hid (n' = (Fl.dps (rs.take k) day c).length) ∧ Hid (Fl.Own2 wr w.heap.size 0 (.slice A' n' cap') (Fl.dps (rs.take k) day c)) ∧ Hid (∀ q ∈ Fl.dps (rs.take k) day c, Fl.Cls wr w.heap.size q.A q.f.cls) ∧ Hid (Below w.heap.size w wr)) (fun _ i _ => rs.length - (intOf i).toNat)
  case atStart => exact ⟨0, 0, none, 0, by omega, rfl, rfl, (show _ = _ by simp [Fl.dps]), (show Fl.Own2 _ _ _ _ _ by simpa [Fl.dps] using HNil.out), (fun q hq => by simp [Fl.dps] at hq), Below.refl _ _⟩
  case round =>
    obtain ⟨wx, ewx⟩ : ∃ x, x = wr := ⟨_, rfl⟩
    subst ewx
    obtain ⟨k, n', A', cap', hk, rfl, rfl, HN, HD, HC, HBr⟩ := hrel
    have hbw := HBr.out.size
    by_cases hlt : k < rs.length
    · obtain ⟨b, hA, hbB, hrow⟩ := (HOh.out.below HBr.out).at k hlt
      have HR := Lib.hid hrow
      have HW := Lib.hid (HOh.out.wf rs[k] (List.getElem_mem hlt))
      have HCk := Lib.hid (((HOh.out.cls rs[k] (List.getElem_mem hlt)).cls))
      have HClk := Lib.hid (HCl.out rs[k] (List.getElem_mem hlt))
      have HTk := Lib.hid (Fl.dps_take (day := day) (c := c) hlt)
      have HLen : Hid ((Fl.dps (rs.take k) day c).length < 4000) := by
        show _ < _
        have := List.length_filter_le (fun r => Fl.on r.f day && c r) (rs.take k)
        rw [List.length_take] at this
        unfold Fl.dps
        omega
      have hn4 : n' < 4000 := by rw [HN.out]; exact HLen.out
      subst hA
      obtain ⟨d2, hd2⟩ : ∃ x, x = Fl.dps (rs.take (k + 1)) day c := ⟨_, rfl⟩
      rw [← hd2] at HTk
      have HE2 := Lib.hid hd2
      generalize hr : rs[k] = r at *
      generalize Fl.dps (rs.take k) day c = d1 at *
      clear hr hrow hd2
      have HFl := Lib.hid (fun w => flies_any r day w HW.out)
      cases hon : Fl.on r.f day with
      | false =>
        rw [hon] at HFl
        have HT2 : Hid (d2 = d1) := show _ = _ by rw [HTk.out, hon]; simp
        clear hon HTk
        go_wp2_with (first
          | (refine wpList_load_mid rfl 62 _ rfl b (k * 9) rfl (Fl.enc r) _ HR.out Fl.uF Fl.rF Fl.iF ?_)
          | (refine Rw.wpList_alloc rfl 62 rfl (Fl.enc Fl.r0) Fl.zF ?_; intro w2 K2 hb2 hz2; clear hz2)
          | (refine Rw.wpList_store_whole rfl 62 _ _ rfl wx.heap.size rfl (Fl.enc r) rfl _ _ K2 Fl.iF rfl (Fl.enc_one _) ?_; intro w3 K3 f3; have b3 : Below wx.heap.size wx w3 := hb2.trans (f3.below hb2.size (fun k hk => by have : k = wx.heap.size := hk; omega)); have HB3 := Lib.hid b3; have HK3 := Lib.hid K3; obtain ⟨c0, c1, c2, c3, c4, c5, c6, c7, c8⟩ := Fl.encs K3)
          | (go_at_call 67; refine (HFl.out _).mono ?_; rintro e w4 ⟨rfl, hb4⟩; have HB4 := Lib.hid (HB3.out.trans (hb4.mono HB3.out.size)); obtain ⟨d0, d1', d2', d3, d4, d5, d6, d7, d8⟩ := Fl.encs (HK3.out.below' hb4)))
        go_roundw
        case rel => exact ⟨k + 1, n', A', cap', by omega, by go_num, rfl, (show _ = _ by rw [← HE2.out, HT2.out]; exact HN.out), (show Fl.Own2 _ _ _ _ _ by rw [← HE2.out, HT2.out]; exact HD.out.below HB4.out), (fun q hq => by rw [← HE2.out, HT2.out] at hq; exact (HC.out q hq).below HB4.out hbw), HBr.out.trans (HB4.out.mono hbw)⟩
        case measure => simp [intOf]; omega
      | true =>
        rw [hon] at HFl
        cases hcr : c r with
        | false =>
          rw [hcr] at HClk
          have HT2 : Hid (d2 = d1) := show _ = _ by rw [HTk.out, hon, hcr]; simp
          clear hon HTk hcr
          go_wp2_with (first
            | (refine wpList_load_mid rfl 62 _ rfl b (k * 9) rfl (Fl.enc r) _ HR.out Fl.uF Fl.rF Fl.iF ?_)
            | (refine Rw.wpList_alloc rfl 62 rfl (Fl.enc Fl.r0) Fl.zF ?_; intro w2 K2 hb2 hz2; clear hz2)
            | (refine Rw.wpList_store_whole rfl 62 _ _ rfl wx.heap.size rfl (Fl.enc r) rfl _ _ K2 Fl.iF rfl (Fl.enc_one _) ?_; intro w3 K3 f3; have b3 : Below wx.heap.size wx w3 := hb2.trans (f3.below hb2.size (fun k hk => by have : k = wx.heap.size := hk; omega)); have HB3 := Lib.hid b3; have HK3 := Lib.hid K3; obtain ⟨c0, c1, c2, c3, c4, c5, c6, c7, c8⟩ := Fl.encs K3)
            | (go_at_call 67; refine (HFl.out _).mono ?_; rintro e w4 ⟨rfl, hb4⟩; have HB4 := Lib.hid (HB3.out.trans (hb4.mono HB3.out.size)); obtain ⟨d0, d1', d2', d3, d4, d5, d6, d7, d8⟩ := Fl.encs (HK3.out.below' hb4))
            | (go_at_call 61; refine (HClk.out _ (HBr.out.trans (HB4.out.mono hbw))).mono ?_; rintro e w5 ⟨rfl, hb5⟩; have HB5 := Lib.hid (HB4.out.trans (hb5.mono HB4.out.size)); have HK5 := Lib.hid ((HK3.out.below' hb4).below' hb5)))
          go_roundw
          case rel => exact ⟨k + 1, n', A', cap', by omega, by go_num, rfl, (show _ = _ by rw [← HE2.out, HT2.out]; exact HN.out), (show Fl.Own2 _ _ _ _ _ by rw [← HE2.out, HT2.out]; exact HD.out.below HB5.out), (fun q hq => by rw [← HE2.out, HT2.out] at hq; exact (HC.out q hq).below HB5.out hbw), HBr.out.trans (HB5.out.mono hbw)⟩
          case measure => simp [intOf]; omega
        | true =>
          rw [hcr] at HClk
          have HT2 : Hid (d2 = d1 ++ [r]) := show _ = _ by rw [HTk.out, hon, hcr]; simp
          clear hon HTk hcr
          go_wp2_with (first
            | (refine wpList_load_mid rfl 62 _ rfl b (k * 9) rfl (Fl.enc r) _ HR.out Fl.uF Fl.rF Fl.iF ?_)
            | (refine Rw.wpList_alloc rfl 62 rfl (Fl.enc Fl.r0) Fl.zF ?_; intro w2 K2 hb2 hz2; clear hz2)
            | (refine Rw.wpList_store_whole rfl 62 _ _ rfl wx.heap.size rfl (Fl.enc r) rfl _ _ K2 Fl.iF rfl (Fl.enc_one _) ?_; intro w3 K3 f3; have b3 : Below wx.heap.size wx w3 := hb2.trans (f3.below hb2.size (fun k hk => by have : k = wx.heap.size := hk; omega)); have HB3 := Lib.hid b3; have HK3 := Lib.hid K3; obtain ⟨c0, c1, c2, c3, c4, c5, c6, c7, c8⟩ := Fl.encs K3)
            | (go_at_call 67; refine (HFl.out _).mono ?_; rintro e w4 ⟨rfl, hb4⟩; have HB4 := Lib.hid (HB3.out.trans (hb4.mono HB3.out.size)); obtain ⟨d0, d1', d2', d3, d4, d5, d6, d7, d8⟩ := Fl.encs (HK3.out.below' hb4))
            | (go_at_call 61; refine (HClk.out _ (HBr.out.trans (HB4.out.mono hbw))).mono ?_; rintro e w5 ⟨rfl, hb5⟩; have HB5 := Lib.hid (HB4.out.trans (hb5.mono HB4.out.size)); have HK5 := Lib.hid ((HK3.out.below' hb4).below' hb5))
            | (refine wpList_load_mid rfl 62 _ rfl wx.heap.size 0 rfl (Fl.enc r) _ HK5.out.range Fl.uF Fl.rF Fl.iF ?_)
            | (refine Fl.wpList_build1 rfl _ rfl r rfl ?_; intro w6 K6 hb6; have HB6 := Lib.hid (HB5.out.trans (hb6.mono HB5.out.size)); have HK6 := Lib.hid K6; have hz56 : w5.heap.size < w6.heap.size := K6.lt; clear K6)
            | (refine Fl.wpList_appendF2 rfl _ _ rfl w.heap.size _ d1 r (HD.out.below HB6.out) (HCk.out.below (HBr.out.trans (HB6.out.mono hbw)) (Nat.le_refl _)) HW.out (fun q hq => (HC.out q hq).below HB6.out hbw) rfl w5.heap.size rfl HK6.out HLen.out (Nat.le_trans hbw HB6.out.size) (n' + 1) (by rw [HN.out]) ?_; intro A7 c7' w7 HO7 HB7 HC7))
          go_roundw
          case rel => exact ⟨k + 1, n' + 1, A7, c7', by omega, by go_num, rfl, (show _ = _ by rw [← HE2.out, HT2.out, List.length_append, HN.out]; rfl), (show Fl.Own2 _ _ _ _ _ by rw [← HE2.out, HT2.out]; exact HO7.out), (fun q hq => by rw [← HE2.out, HT2.out] at hq; exact HC7.out q hq), (HBr.out.trans (HB6.out.mono hbw)).trans HB7.out⟩
          case measure => simp [intOf]; omega
    · have hkn : rs.take k = rs := List.take_of_length_le (by omega)
      rw [hkn] at HN HD HC
      have hn1 : n' ≤ 1 := by rw [HN.out]; exact H1.out
      have HF : Hid (Fl.DepIs w rs day c (.returned (.slice A' n' cap')) wx) := ⟨_, rfl, HD.out, HBr.out⟩
      clear HN HD HC H1 HNil hkn HOh HCl
      go_wp2_with (first
        | (go_at_call 83; refine (stable_one _ _ _ _ _ hn1).mono ?_; rintro e w2 ⟨rfl, rfl⟩))
      go_ret
      exact HF.out
end Go.Proofs.YtmcekicaigbccaaGreat
