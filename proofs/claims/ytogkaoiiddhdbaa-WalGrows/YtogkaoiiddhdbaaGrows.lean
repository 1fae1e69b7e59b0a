/- WalGrows: for every size of disk and every row of acts (no condition, no bound on size) the law answers true. -/
import Derived.Test.YtogkaoiiddhdbaaAcl
namespace Go.Proofs.Ytogkaoiiddhdbaa
open Go.ChangeShapes Go.WideShapes Go.ChangeAt Go.RowKit
set_option linter.unusedVariables false

set_option maxRecDepth 8000 in
set_option maxHeartbeats 4000000 in
theorem grows_core (n : Nat) (h4 : 4 ≤ n) (h60 : n ≤ 60) (A : Option Addr) (zs : List Dk.ActD) (c : Nat) (w : World) (hI : Dk.Acts w (· < w.heap.size) A zs) (hl : zs.length ≤ 40) :
    Calls Try.prog 9 #[.int .i64 (n : Int), .slice A zs.length c] w fun e w' => e = .returned (.bool true) ∧ Below w.heap.size w w' := by
  have HI := Lib.hid hI
  obtain ⟨_, _, _, g0, _, g2, _⟩ := Wl.open_new n h4
  have HBG := Lib.hid (fun w1 => begun_nil w1 n h4 h60)
  have HS0 := Lib.hid (g0.gs (M := 1) h60 (by omega))
  generalize Wl.opened (Dk.S.new (n : Int)) = t0 at *
  clear hI g0 g2
  have h4i : ¬ (n : Int) < 4 := by omega
  have hd40 : decide ((40 : Int) < (zs.length : Int)) = false := decide_eq_false (by omega)
  go_enter Try.func9, Try.ntmps9
  go_wp2_with (first
    | (go_at_call 10; refine (awake_any _).mono ?_; rintro e w1 ⟨rfl, hbw⟩)
    | (go_at_call 33; refine (HBG.out _).mono ?_; rintro e w2 ⟨q, p, rfl, HL2⟩)
    | (go_at_call 40; refine (generation_live HL2.out).mono ?_; rintro e w3 ⟨rfl, rfl⟩))
  have hs1 := hbw.size
  go_loopw [6, 8, 9] (fun lv la i wr => ∃ (j q : Nat) (t : Wl.L), j ≤ zs.length ∧ lv = .pointer (some ⟨q, 0, none⟩) ∧ la = .int .u32 (t.g : Int) ∧ i = .int .i64 j ∧ Hid (Wl.LiveL w1 (fun _ => False) wr q p t) ∧ Hid (Wl.GS n t (1 + 2 * j))) (fun _ _ i _ => zs.length - (intOf i).toNat)
  case atStart => exact ⟨0, q, t0, by omega, rfl, rfl, rfl, HL2, HS0⟩
  case round =>
    obtain ⟨j, q1, t, hj, rfl, rfl, rfl, HL, HG⟩ := hrel
    have hbr : Below w.heap.size w wr := hbw.trans (HL.out.bl.mono hs1)
    by_cases hj2 : j < zs.length
    · obtain ⟨ab, off, rfl, hab, hac⟩ := (HI.out.below hbr) (by omega)
      obtain ⟨Ad, Ak, cd, ck, hat⟩ := hac j hj2
      have HRA := Lib.hid (Wl.rangeAt_act hat)
      have hld := hat.ld
      have hdc := hat.dc
      have hwn := bounds_i64 hat.wn
      have HDT : Hid (∀ wb, Below wr.heap.size wr wb → Dk.Bts wb (· < w.heap.size) Ad (zs[j]'hj2).data) := fun wb hb => hat.hd.kept (fun k hk => hb.block k (Nat.lt_of_lt_of_le hk hbr.size))
      have HKT : Hid (∀ wb, Below wr.heap.size wr wb → Dk.Bls wb (fun k => k < w1.heap.size ∨ False) Ak (zs[j]'hj2).keep) := fun wb hb => Wl.Bls.mono (hat.hk.kept (fun k hk => hb.block k (Nat.lt_of_lt_of_le hk hbr.size))) (fun k hk => .inl (Nat.lt_of_lt_of_le hk hs1))
      clear hat hac HI
      generalize zs[j] = x at *
      have HCP : Hid (∀ wa wb, Wl.AB wa wr.heap.size ⟨0, 0, 0, 0, [], [], 0⟩ none none 0 0 → Below wr.heap.size wr wa → wr.heap.size < wa.heap.size → Wl.AB wb wr.heap.size x Ad Ak cd ck → Dk.Fr (· = wr.heap.size) wa wb → Below wr.heap.size wr wb ∧ Hid (Wl.AB wb wr.heap.size x Ad Ak cd ck) ∧ Hid (Wl.LiveL w1 (fun _ => False) wb q1 p t)) := fun wa wb _ hba _ hgb hfb => by
        have hbb : Below wr.heap.size wr wb := hba.trans (hfb.below hba.size (fun k hk => by omega))
        exact ⟨hbb, hgb, (HL.out.below hbb).1⟩
      have hgt : t.g ≤ 4294967000 := by have := HG.out.gm; omega
      by_cases e0 : x.kind = 0
      · have e0b : (x.kind == 0) = true := beq_iff_eq.2 e0
        obtain ⟨k1, k2⟩ := HG.out.append (Wl.recL x.data x.size)
        have HGN : Hid (Wl.GS n (t.append (Wl.recL x.data x.size)) (1 + 2 * (j + 1))) := k1.mono (by omega)
        have hng : ¬ (t.append (Wl.recL x.data x.size)).g < t.g := by omega
        clear k1 k2 e0 HKT hwn
        go_wp2_with (first
          | (refine Wl.wpList_loadA rfl _ rfl _ _ rfl x Ad Ak cd ck HRA.out ?_)
          | (refine Dk.wpList_alloc rfl 43 rfl _ (Wl.zA _) ?_; intro wa hga hba hsa)
          | (refine Wl.wpList_storeA rfl _ _ rfl wr.heap.size rfl x Ad Ak cd ck rfl _ _ _ _ _ hga ?_; intro wb hgb hfb; obtain ⟨hbb, HAB, HLb⟩ := HCP.out wa wb hga hba hsa hgb hfb; have hc0 := HAB.out.c0; have hc2 := HAB.out.c2; have hc3 := HAB.out.c3; have hc4 := HAB.out.c4; have hc5 := HAB.out.c5; clear hga hgb hba hfb hsa)
          | (go_at_call 17; refine (record_any Ad x.data cd _ x.size wb _ (HDT.out wb hbb) (by omega) rfl).mono ?_; rintro e wc ⟨rfl, HRc, hbc⟩)
          | (go_at_call 19; refine (Wl.app_step HL.out HG.out.fit (hbb.trans (hbc.mono hbb.size)) hbb.size HRc.out (Wl.length_recL _ _) (Nat.le_trans (Wl.clampR_le _) (by decide))).mono ?_; rintro e wd ⟨rfl, HLc, _, _⟩)
          | (go_at_call 40; refine (generation_live HLc.out).mono ?_; rintro e wg ⟨rfl, rfl⟩))
        go_roundw
        case rel => exact ⟨j + 1, q1, _, by omega, rfl, rfl, by go_num, HLc, HGN⟩
        case measure => simp [intOf]; omega
      · have e0b : (x.kind == 0) = false := beq_eq_false_iff_ne.2 e0
        by_cases e1 : x.kind = 1
        · have e1b : (x.kind == 1) = true := beq_iff_eq.2 e1
          obtain ⟨k1, k2⟩ := HG.out.renew (Wl.listL x) (by omega)
          have HGN : Hid (Wl.GS n (t.renew (Wl.listL x)) (1 + 2 * (j + 1))) := k1.mono (by omega)
          have HLN : Hid ((Wl.listL x).length ≤ 900000) := show _ ≤ _ by rw [Wl.length_listL]; omega
          have HLE : Hid (∀ i (hi : i < (Wl.listL x).length), (Wl.listL x)[i].length ≤ 9223372036854775807) := fun i hi => Nat.le_trans (Wl.mem_listL x _ (List.getElem_mem hi)) (by decide)
          clear e0 e1 HKT hwn k1
          rcases k2 with ⟨k2, k3⟩ | ⟨k2, k3⟩
          · have HK2 := Lib.hid k2
            have hng : ¬ (t.renew (Wl.listL x)).g < t.g := by omega
            have hgi : (((t.renew (Wl.listL x)).g : Int) != (t.g : Int) + 1) = false := by rw [k3]; simp
            have hgi2 : (((t.renew (Wl.listL x)).g : Int) == (t.g : Int) + 1) = true := by rw [k3]; simp
            clear k2 k3
            go_wp2_with (first
              | (refine Wl.wpList_loadA rfl _ rfl _ _ rfl x Ad Ak cd ck HRA.out ?_)
              | (refine Dk.wpList_alloc rfl 43 rfl _ (Wl.zA _) ?_; intro wa hga hba hsa)
              | (refine Wl.wpList_storeA rfl _ _ rfl wr.heap.size rfl x Ad Ak cd ck rfl _ _ _ _ _ hga ?_; intro wb hgb hfb; obtain ⟨hbb, HAB, HLb⟩ := HCP.out wa wb hga hba hsa hgb hfb; have hc0 := HAB.out.c0; have hc2 := HAB.out.c2; have hc3 := HAB.out.c3; have hc4 := HAB.out.c4; have hc5 := HAB.out.c5; clear hga hgb hba hfb hsa)
              | (refine Wl.wpList_loadA rfl _ rfl wr.heap.size 0 rfl x Ad Ak cd ck HAB.out.range ?_)
              | (go_at_call 20; refine (list_any wb x Ad Ak cd ck _ (HDT.out wb hbb) hdc (by omega)).mono ?_; rintro e wc ⟨A3, c3, rfl, HRc, hbc⟩)
              | (go_at_call 23; refine (renew_live (HLb.out.below hbc).1 HG.out.fit HRc.out.prts HLN.out HLE.out rfl).mono ?_; rw [HK2.out]; rintro e wd ⟨rfl, HLc, _⟩)
              | (go_at_call 40; refine (generation_live HLc.out).mono ?_; rintro e wg ⟨rfl, rfl⟩))
            go_roundw
            case rel => exact ⟨j + 1, q1, _, by omega, rfl, rfl, by go_num, HLc, HGN⟩
            case measure => simp [intOf]; omega
          · have hrc : (t.rcode (Wl.listL x) == 0) = false := beq_eq_false_iff_ne.2 k2
            have hng : ¬ (t.renew (Wl.listL x)).g < t.g := by omega
            clear k2 k3
            go_wp2_with (first
              | (refine Wl.wpList_loadA rfl _ rfl _ _ rfl x Ad Ak cd ck HRA.out ?_)
              | (refine Dk.wpList_alloc rfl 43 rfl _ (Wl.zA _) ?_; intro wa hga hba hsa)
              | (refine Wl.wpList_storeA rfl _ _ rfl wr.heap.size rfl x Ad Ak cd ck rfl _ _ _ _ _ hga ?_; intro wb hgb hfb; obtain ⟨hbb, HAB, HLb⟩ := HCP.out wa wb hga hba hsa hgb hfb; have hc0 := HAB.out.c0; have hc2 := HAB.out.c2; have hc3 := HAB.out.c3; have hc4 := HAB.out.c4; have hc5 := HAB.out.c5; clear hga hgb hba hfb hsa)
              | (refine Wl.wpList_loadA rfl _ rfl wr.heap.size 0 rfl x Ad Ak cd ck HAB.out.range ?_)
              | (go_at_call 20; refine (list_any wb x Ad Ak cd ck _ (HDT.out wb hbb) hdc (by omega)).mono ?_; rintro e wc ⟨A3, c3, rfl, HRc, hbc⟩)
              | (go_at_call 23; refine (renew_live (HLb.out.below hbc).1 HG.out.fit HRc.out.prts HLN.out HLE.out rfl).mono ?_; rintro e wd ⟨rfl, HLc, _⟩)
              | (go_at_call 40; refine (generation_live HLc.out).mono ?_; rintro e wg ⟨rfl, rfl⟩))
            go_roundw
            case rel => exact ⟨j + 1, q1, _, by omega, rfl, rfl, by go_num, HLc, HGN⟩
            case measure => simp [intOf]; omega
        · have e1b : (x.kind == 1) = false := beq_eq_false_iff_ne.2 e1
          by_cases e2 : x.kind = 2
          · have e2b : (x.kind == 2) = true := beq_iff_eq.2 e2
            obtain ⟨k1, k2, k3, k4, k5, k6⟩ := HG.out.restart x.keep (by omega)
            have HOP : Hid (∀ wc, Dk.Live w1 (fun _ => False) wc p (t.d.restart x.keep) → Calls Try.prog 38 #[.pointer (some ⟨p, 0, none⟩)] wc fun e w' => Wl.OpenL w1 (fun _ => False) wc p (Wl.opened (t.d.restart x.keep)) e w') := fun wc hD => open_live hD k1 k2 k3 k4
            have HWT : Hid (t.d.wait.length < 100000) := show _ < _ by have := HG.out.fit.ok.ww; omega
            have HGN : Hid (Wl.GS n (Wl.opened (t.d.restart x.keep)) (1 + 2 * (j + 1))) := k5.mono (by omega)
            generalize Wl.opened (t.d.restart x.keep) = t2 at *
            have hng : ¬ t2.g ≤ t.g := by omega
            have hng2 : ¬ t2.g < t.g := by omega
            clear k1 k2 k3 k4 k5 k6 e0 e1 e2 hwn HDT
            go_wp2_with (first
              | (refine Wl.wpList_loadA rfl _ rfl _ _ rfl x Ad Ak cd ck HRA.out ?_)
              | (refine Dk.wpList_alloc rfl 43 rfl _ (Wl.zA _) ?_; intro wa hga hba hsa)
              | (refine Wl.wpList_storeA rfl _ _ rfl wr.heap.size rfl x Ad Ak cd ck rfl _ _ _ _ _ hga ?_; intro wb hgb hfb; obtain ⟨hbb, HAB, HLb⟩ := HCP.out wa wb hga hba hsa hgb hfb; have hc0 := HAB.out.c0; have hc2 := HAB.out.c2; have hc3 := HAB.out.c3; have hc4 := HAB.out.c4; have hc5 := HAB.out.c5; clear hga hgb hba hfb hsa)
              | (go_at_call 37; refine (restart_live HLb.out.disk (HKT.out wb hbb) HWT.out).mono ?_; rintro e wc ⟨rfl, HDc, _⟩)
              | (go_at_call 38; refine (HOP.out wc HDc.out).mono ?_; rintro e wd ⟨q2, rfl, HLc, _⟩)
              | (go_at_call 40; refine (generation_live HLc.out).mono ?_; rintro e wg ⟨rfl, rfl⟩))
            go_roundw
            case rel => exact ⟨j + 1, q2, _, by omega, rfl, rfl, by go_num, HLc, HGN⟩
            case measure => simp [intOf]; omega
          · have e2b : (x.kind == 2) = false := beq_eq_false_iff_ne.2 e2
            by_cases e3 : x.kind = 3
            · have e3b : (x.kind == 3) = true := beq_iff_eq.2 e3
              have k1 := HG.out.fuse x.n hwn.2
              have HGN : Hid (Wl.GS n { t with d := Wl.fuse t.d x.n } (1 + 2 * (j + 1))) := k1.mono (by omega)
              clear k1 e0 e1 e2 e3 HDT HKT
              go_wp2_with (first
                | (refine Wl.wpList_loadA rfl _ rfl _ _ rfl x Ad Ak cd ck HRA.out ?_)
                | (refine Dk.wpList_alloc rfl 43 rfl _ (Wl.zA _) ?_; intro wa hga hba hsa)
                | (refine Wl.wpList_storeA rfl _ _ rfl wr.heap.size rfl x Ad Ak cd ck rfl _ _ _ _ _ hga ?_; intro wb hgb hfb; obtain ⟨hbb, HAB, HLb⟩ := HCP.out wa wb hga hba hsa hgb hfb; have hc0 := HAB.out.c0; have hc2 := HAB.out.c2; have hc3 := HAB.out.c3; have hc4 := HAB.out.c4; have hc5 := HAB.out.c5; clear hga hgb hba hfb hsa)
                | (go_at_call 26; refine (fuse_liveL x.n HLb.out).mono ?_; rintro e wd ⟨rfl, HLc, _⟩)
                | (go_at_call 40; refine (generation_live HLc.out).mono ?_; rintro e wg ⟨rfl, rfl⟩))
              go_roundw
              case rel => exact ⟨j + 1, q1, { t with d := Wl.fuse t.d x.n }, by omega, rfl, rfl, by go_num, HLc, HGN⟩
              case measure => simp [intOf]; omega
            · have e3b : (x.kind == 3) = false := beq_eq_false_iff_ne.2 e3
              have HGN : Hid (Wl.GS n t (1 + 2 * (j + 1))) := HG.out.mono (by omega)
              clear e0 e1 e2 e3 HDT HKT hwn
              go_wp2_with (first
                | (refine Wl.wpList_loadA rfl _ rfl _ _ rfl x Ad Ak cd ck HRA.out ?_)
                | (refine Dk.wpList_alloc rfl 43 rfl _ (Wl.zA _) ?_; intro wa hga hba hsa)
                | (refine Wl.wpList_storeA rfl _ _ rfl wr.heap.size rfl x Ad Ak cd ck rfl _ _ _ _ _ hga ?_; intro wb hgb hfb; obtain ⟨hbb, HAB, HLb⟩ := HCP.out wa wb hga hba hsa hgb hfb; have hc0 := HAB.out.c0; have hc2 := HAB.out.c2; have hc3 := HAB.out.c3; have hc4 := HAB.out.c4; have hc5 := HAB.out.c5; clear hga hgb hba hfb hsa)
                | (go_at_call 40; refine (generation_live HLb.out).mono ?_; rintro e wg ⟨rfl, rfl⟩))
              go_roundw
              case rel => exact ⟨j + 1, q1, t, by omega, rfl, rfl, by go_num, HLb, HGN⟩
              case measure => simp [intOf]; omega
    · obtain rfl : j = zs.length := by omega
      go_wp2
      go_ret
      exact ⟨rfl, hbr⟩
theorem grows_walk (w : World) (x : Int) (hx : (Lit.int .i64 x).wf = true) (A : Option Addr) (zs : List Dk.ActD) (c : Nat) (hI : Dk.Acts w (· < w.heap.size) A zs ∧ zs.length ≤ 9223372036854775807) :
    Calls Try.prog 9 #[.int .i64 x, .slice A zs.length c] w fun e w' => e = .returned (.bool true) ∧ Below w.heap.size w w' := by
  obtain ⟨hI, hm⟩ := hI
  by_cases hx4 : x < 4 ∨ 60 < x
  · have HN := Lib.hid (fun w1 => begun_no w1 x none 0 0 hx4 (by omega))
    rcases (show x < 4 ∨ (¬ x < 4 ∧ 60 < x) by omega) with h | ⟨h, h'⟩
    all_goals
      clear hx4 hI
      go_enter Try.func9, Try.ntmps9
      go_wp2_with (first
        | (go_at_call 10; refine (awake_any _).mono ?_; rintro e w1 ⟨rfl, hbw⟩)
        | (go_at_call 33; refine (HN.out _).mono ?_; rintro e w2 ⟨rfl, hb2⟩))
      go_ret
      exact ⟨rfl, hbw.trans (hb2.out.mono hbw.size)⟩
  · obtain ⟨n, rfl⟩ := Int.eq_ofNat_of_zero_le (show 0 ≤ x by omega)
    by_cases h40 : zs.length ≤ 40
    · exact grows_core n (by omega) (by omega) A zs c w hI h40
    · have HBG := Lib.hid (fun w1 => begun_nil w1 n (by omega) (by omega))
      generalize Wl.opened (Dk.S.new (n : Int)) = t0 at *
      have h4i : ¬ (n : Int) < 4 := by omega
      have h60i : ¬ 60 < (n : Int) := by omega
      have hd40 : (40 : Int) < (zs.length : Int) := by omega
      clear hI hx4
      go_enter Try.func9, Try.ntmps9
      go_wp2_with (first
        | (go_at_call 10; refine (awake_any _).mono ?_; rintro e w1 ⟨rfl, hbw⟩)
        | (go_at_call 33; refine (HBG.out _).mono ?_; rintro e w2 ⟨q, p, rfl, HL2⟩))
      go_ret
      exact ⟨rfl, hbw.trans (HL2.out.bl.mono hbw.size)⟩

set_option maxRecDepth 100000 in
theorem walGrows_lifted (os : Os) (started : os.Started) (H : Type) (enc : TypeId × Value → H) :
    ReturnsInHanded {} Try.checked os 9 .any (Rows.walGrowsSpec.pre6 enc Try.prog Try.f9 Rows.walGrowsRow.domain false) (Rows.walGrowsSpec.post enc Try.prog Try.f9 false true false false) := by
  refine returnsInHanded_of_change (C := Try.checked) own started (by kernel_rfl) Try.func9
    (ChangeSpec.witness6 (enc := enc) (C := Try.checked) false ⟨#[], #[.int .i64 0, .slice none 0 0], []⟩ 8 (by kernel_rfl) (by kernel_rfl) (by kernel_rfl) (by kernel_rfl)) ?_
  intro W base args ds gs before hval0 hW hcnd _
  have hval : ∀ (j : Nat) t v, Try.f9.params[j]? = some t → args[j]? = some v → Value.okWide Try.prog W .any base t v := hval0
  have hW' := hW
  obtain ⟨p, q, hA0, hV, rfl, hfz, hnd⟩ := hW
  have hA : DataW.TrodAll enc Try.prog W 0 (fun _ => true) true Try.f9.params.toList args.toList ds p := hA0
  rw [Try.params9] at hA hval
  obtain ⟨v0, vs0, d0, ds0, p0, q0, hargs, rfl, rfl, h0, r0⟩ := trodAll_cons hA
  obtain ⟨v1, vs1, d1, ds1, p1, q1, rfl, rfl, rfl, h1, r1⟩ := trodAll_cons r0
  obtain ⟨rfl, rfl, rfl⟩ := trodAll_nil r1
  obtain rfl : args = #[v0, v1] := by cases args; simp_all
  obtain ⟨rfl, rfl⟩ := trodVars_none hV
  obtain ⟨a0, rfl, rfl, rfl, w0⟩ := open_int Try.underlying3 (hval 0 3 v0 rfl rfl) h0
  obtain ⟨a1, len1, cap1, rfl⟩ := okWide_slice Try.underlying25 (hval 1 25 v1 rfl rfl)
  have k1 := h1
  have lt1 : ∀ x ∈ p1, x.block < W.heap.size := by obtain ⟨m, hm⟩ := k1; exact DataW.trod_lt m _ _ _ hm
  obtain ⟨fuel1, hf1⟩ := h1
  obtain ⟨A1, l1, c1, hcs1, b1⟩ := Dk.trod_acts hf1
  simp only [Value.cells, List.cons.injEq, and_true, Value.slice.injEq] at hcs1
  obtain ⟨rfl, rfl, rfl⟩ := hcs1
  clear hA0 hval0
  refine (grows_walk W a0 w0 _ l1 _ b1).mono fun e W' ⟨he, bel⟩ => ?_
  subst he
  exact ⟨_, rfl, _, _, _, [], _, [], hW', trodAll_mk1 (shut_bool Try.underlying4 _), (trodAll_cons_mk (shut_int Try.underlying3 w0) (trodAll_cons_mk (Below.trod laidOut (by kernel_rfl) (of_decide_eq_true (by kernel_rfl)) k1 bel lt1) (trodAll_mk0))), rfl, bel.frame _, fun h => by cases h⟩

/-- The statement WalGrows. -/
theorem walGrows_holds : Rows.WalGrowsSaid :=
  OpenClaim.holds_of_wide 9 Try.f9 rfl rfl rfl rfl rfl rfl rfl ⟨rfl, rfl, rfl, rfl, rfl⟩ rfl rfl rfl rfl rfl (by kernel_rfl) Try.func9 (by kernel_rfl)
    (of_decide_eq_true (by kernel_rfl)) (by unfold Func.isWrapper; first | (rw [if_pos (by decide +kernel)]; kernel_rfl) | (rw [if_neg (by decide +kernel)]; exact ⟨rfl, rfl⟩))
    (fun os started H enc _ => walGrows_lifted os started H enc)
#print axioms walGrows_holds

end Go.Proofs.Ytogkaoiiddhdbaa
