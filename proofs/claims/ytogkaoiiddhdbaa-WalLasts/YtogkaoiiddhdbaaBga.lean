/- Contract of begun, with acts to be done. -/
import Derived.Test.YtogkaoiiddhdbaaRst
namespace Go.Proofs.Ytogkaoiiddhdbaa
open Go.RowKit
set_option linter.unusedVariables false

set_option maxRecDepth 8000 in
set_option maxHeartbeats 2000000 in
theorem begun_any (w : World) (n : Nat) (h4 : 4 ≤ n) (h60 : n ≤ 60) (A : Option Addr) (zs : List Dk.ActD) (c : Nat) (B : Nat) (hB : B ≤ w.heap.size) (hI : Dk.Acts w (· < B) A zs) (hl : zs.length ≤ 40) :
    Calls Try.prog 33 #[.int .i64 (n : Int), .slice A zs.length c] w fun e w' => Wl.BegunL w n e w' := by
  have HI := Lib.hid hI
  obtain ⟨_, _, _, g0, _, g2, g3⟩ := Wl.open_new n h4
  have h1 : ¬ (n : Int) < 4 := by omega
  have h2 : ¬ 60 < (n : Int) := by omega
  have hd40 : ¬ (40 : Int) < (zs.length : Int) := by omega
  have HN := Lib.hid (fun w1 => new_live (n : Int) w1 (by omega) (by omega))
  have HO : Hid (∀ w0 X w1 p, Dk.Live w0 X w1 p (Dk.S.new (n : Int)) → Calls Try.prog 38 #[.pointer (some ⟨p, 0, none⟩)] w1 fun e w' => Wl.OpenL w0 X w1 p (Wl.opened (Dk.S.new (n : Int))) e w') := fun w0 X w1 p hL => Wl.new_open n h4 (by omega) hL
  have HG0 : Hid (Wl.Good n (Wl.opened (Dk.S.new (n : Int))) ∧ (Wl.opened (Dk.S.new (n : Int))).d.fused = false ∧ (Wl.opened (Dk.S.new (n : Int))).g ≤ 1 + 0) := ⟨g0, g3, by omega⟩
  generalize Wl.opened (Dk.S.new (n : Int)) = t0 at *
  clear hI g0 g2 g3
  go_enter Try.func33, Try.ntmps33
  go_wp2_with (first
    | (go_at_call 15; refine (HN.out _).mono ?_; rintro e w1 ⟨rfl, HL1⟩)
    | (go_at_call 38; refine (HO.out _ _ _ _ HL1.out).mono ?_; rintro e w2 ⟨q, rfl, HL2, HS2⟩))
  go_loopw [10] (fun i wr => ∃ (j : Nat) (t : Wl.L), j ≤ zs.length ∧ i = .int .i64 j ∧ Hid (Wl.LiveL w (fun _ => False) wr q (w.heap.size + 1 + 1) t) ∧ Hid (Wl.Good n t ∧ t.d.fused = false ∧ t.g ≤ 1 + j)) (fun i _ => zs.length - (intOf i).toNat)
  case atStart => exact ⟨0, t0, by omega, rfl, HL2, HG0⟩
  case round =>
    obtain ⟨j, t, hj, rfl, HL, HG⟩ := hrel
    have hbr : Below w.heap.size w wr := HL.out.bl
    by_cases hj2 : j < zs.length
    · have HFT := Lib.hid (HG.out.1.fits (by omega))
      obtain ⟨ab, off, rfl, hab, hac⟩ := HI.out (by omega)
      obtain ⟨Ad, Ak, cd, ck, hat0⟩ := hac j hj2
      have hat := hat0.kept (w' := wr) hab (fun k hk => hbr.block k (by have : k < B := hk; omega))
      have HRA := Lib.hid (Wl.rangeAt_act hat)
      have hld := hat.ld
      have hdc := hat.dc
      have k0 := hat.c0
      have k3 := hat.c3
      have k4 := hat.c4
      have k3' : wr.drew.cell? ⟨ab, off + j * 7 + 3, none⟩ = some (.int .i64 (zs[j]'hj2).size) := hat.c3
      have k4' : wr.drew.cell? ⟨ab, off + j * 7 + 4, none⟩ = some (.slice Ad (zs[j]'hj2).data.length cd) := hat.c4
      have HDT := Lib.hid hat.hd
      clear hat hat0 hac HI
      generalize zs[j] = x at *
      by_cases e0 : x.kind = 0
      · have e0b : (x.kind == 0) = true := beq_iff_eq.2 e0
        obtain ⟨b1, b2, b3⟩ := HG.out.1.appendF HG.out.2.1 (Wl.recL x.data x.size)
        have HGN : Hid (Wl.Good n (t.append (Wl.recL x.data x.size)) ∧ (t.append (Wl.recL x.data x.size)).d.fused = false ∧ (t.append (Wl.recL x.data x.size)).g ≤ 1 + (j + 1)) := ⟨b1, b2, by have := HG.out.2.2; omega⟩
        clear b1 b2 b3 e0
        go_wp2
        go_region_law (first
          | (go_simp; go_at_call 19; go_loud (refine (Wl.app_step HL.out HFT.out hbc (Nat.le_refl _) HRc.out (Wl.length_recL _ _) (Nat.le_trans (Wl.clampR_le _) (by decide))).mono ?_; rintro e wd ⟨rfl, HLc, _, _⟩))
          | (go_simp; go_at_call 17; go_loud (refine (record_drew Ad x.data cd _ x.size wr _ HDT.out (by omega) rfl).mono ?_; rintro e wc ⟨rfl, HRc, hbc⟩)))
        all_goals go_wp2
        all_goals go_roundw
        all_goals first
          | exact ⟨j + 1, _, by omega, by go_num, HLc, HGN⟩
          | (simp [intOf]; omega)
      · have e0b : (x.kind == 0) = false := beq_eq_false_iff_ne.2 e0
        by_cases e1 : x.kind = 1
        · have e1b : (x.kind == 1) = true := beq_iff_eq.2 e1
          obtain ⟨b1, b2, b3⟩ := HG.out.1.renewF HG.out.2.1 (Wl.listL x) (by have := HG.out.2.2; omega)
          have HGN : Hid (Wl.Good n (t.renew (Wl.listL x)) ∧ (t.renew (Wl.listL x)).d.fused = false ∧ (t.renew (Wl.listL x)).g ≤ 1 + (j + 1)) := ⟨b1, b2, by have := HG.out.2.2; omega⟩
          have HLN : Hid ((Wl.listL x).length ≤ 900000) := show _ ≤ _ by rw [Wl.length_listL]; omega
          have HLE : Hid (∀ i (hi : i < (Wl.listL x).length), (Wl.listL x)[i].length ≤ 9223372036854775807) := fun i hi => Nat.le_trans (Wl.mem_listL x _ (List.getElem_mem hi)) (by decide)
          clear b1 b2 b3 e0 e1
          go_wp2_with (first
            | (refine Wl.wpList_loadA rfl _ rfl _ _ rfl x Ad Ak cd ck HRA.out ?_)
            | (go_at_call 20; refine (list_any wr x Ad Ak cd ck _ HDT.out hdc (by omega)).mono ?_; rintro e wc ⟨A3, c3, rfl, HRc, hbc⟩)
            | (go_at_call 23; refine (renew_live (HL.out.below hbc).1 HFT.out HRc.out.prts HLN.out HLE.out rfl).mono ?_; rintro e wd ⟨rfl, HLc, _⟩))
          go_roundw
          case rel => exact ⟨j + 1, _, by omega, by go_num, HLc, HGN⟩
          case measure => simp [intOf]; omega
        · have e1b : (x.kind == 1) = false := beq_eq_false_iff_ne.2 e1
          have HGN : Hid (Wl.Good n t ∧ t.d.fused = false ∧ t.g ≤ 1 + (j + 1)) := ⟨HG.out.1, HG.out.2.1, by have := HG.out.2.2; omega⟩
          clear e0 e1
          go_wp2
          go_roundw
          case rel => exact ⟨j + 1, t, by omega, by go_num, HL, HGN⟩
          case measure => simp [intOf]; omega
    · obtain rfl : j = zs.length := by omega
      have HGN : Hid (Wl.Good n t ∧ t.d.fused = false ∧ t.g ≤ 41) := ⟨HG.out.1, HG.out.2.1, by have := HG.out.2.2; omega⟩
      go_wp2
      go_ret3
      exact ⟨q, _, t, rfl, HL, HGN⟩
theorem begun_not (w : World) (x : Int) (A : Option Addr) (m c : Nat) (h : x < 4 ∨ 60 < x ∨ 40 < m) (_hm : m ≤ 9223372036854775807) :
    Calls Try.prog 33 #[.int .i64 x, .slice A m c] w fun e w' => e = .returned (.tuple #[.pointer none, .pointer none, .bool false]) ∧ Hid (Below w.heap.size w w') := by
  by_cases h' : x < 4 ∨ 60 < x
  · exact begun_no w x A m c h' _hm
  · have hm : (40 : Int) < (m : Int) := by omega
    have h1 : ¬ x < 4 := by omega
    have h2 : ¬ 60 < x := by omega
    have HN := Lib.hid (fun w1 => new_live x w1 (by omega) (by omega))
    clear h h'
    go_enter Try.func33, Try.ntmps33
    go_wp2_with (go_at_call 15; refine (HN.out _).mono ?_; rintro e w1 ⟨rfl, HL⟩)
    go_ret3
    exact ⟨rfl, HL.out.bl⟩
end Go.Proofs.Ytogkaoiiddhdbaa
