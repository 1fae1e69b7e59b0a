/- DiskFlushed: what was flushed is there behind any crash in which nothing further was written; for every input. -/
import Derived.Test.YtngpdjkeoodigaaLawA
namespace Go.Proofs.Ytngpdjkeoodigaa
open Go.ChangeShapes Go.WideShapes Go.ChangeAt Go.RowKit
set_option linter.unusedVariables false

set_option maxRecDepth 100000 in
set_option maxHeartbeats 4000000 in
theorem flushed_walk (w : World) (A : Option Addr) (l : List Dk.ActD) (c : Nat) (hA : Dk.Acts w (· < w.heap.size) A l ∧ l.length ≤ 9223372036854775807) (A' : Option Addr) (m : List Bool) (c' : Nat) (hb : Dk.Bls w (· < w.heap.size) A' m ∧ m.length ≤ 9223372036854775807 ∧ m.length ≤ c' ∧ (A' = none → c' = 0)) (times : Int) (wf : (Lit.int .i64 times).wf = true) :
    Calls Try.prog 5 #[.slice A l.length c, .slice A' m.length c', .int .i64 times] w fun e w' => e = .returned (.bool true) ∧ Below w.heap.size w w' := by
  obtain ⟨hlo, hhi⟩ := bounds_i64 wf
  obtain ⟨hB, hm, -, -⟩ := hb
  obtain ⟨hA, hl⟩ := hA
  have HB := Lib.hid hB
  have HA := Lib.hid hA
  clear wf hB hA
  by_cases h100 : 100 < l.length
  · go_enter Try.func5, Try.ntmps5
    go_wp2_with (go_at_call 8; refine (awake_any _).mono ?_; rintro e w1 ⟨rfl, hb1⟩)
    go_ret
    exact ⟨rfl, hb1⟩
  · go_enter Try.func5, Try.ntmps5
    go_wp2_with (first
      | (go_at_call 8; refine (awake_any _).mono ?_; rintro e w1 ⟨rfl, hb1⟩)
      | (go_at_call 13; refine (made_any w1 A l c ((HA.out.below hb1).imp (fun k hk => Nat.lt_of_lt_of_le hk hb1.size)) (by omega)).mono ?_; rintro e w2 ⟨rfl, HM⟩; obtain ⟨s0, HL2', HC0'⟩ := HM.out; have HL2 := Lib.hid HL2'; have HC0 := Lib.hid HC0'; clear HM HL2' HC0')
      | (go_at_call 14; refine (sectors_any w1 w2 _ _ s0 HL2.out HC0.out.n6 HC0.out.up).mono ?_; rintro e w3 ⟨g, cap, rfl, hg, HT3, hb3⟩))
    have HL3 := Lib.hid (HL2.out.moreg hb3 hg HT3.out.lt')
    have hw12 := HL2.out.bl.size
    have HBw : Hid (∀ w', Below w1.heap.size w1 w' → Dk.Bls w' (fun k => k < w1.heap.size ∨ (False ∨ k = g)) A' m) := fun w' hb' =>
      (HB.out.below (hb1.trans (hb'.mono hb1.size))).imp (fun k hk => .inl (Nat.lt_of_lt_of_le hk hb1.size))
    clear HA HB HL2 hb3
    go_loopw [10] (fun i wr => ∃ (j : Nat) (s : Dk.S), j ≤ 5 ∧ i = .int .i64 j ∧ Hid (Dk.Live w1 (fun k => False ∨ k = g) wr (w1.heap.size + 1 + 1) s) ∧ Hid (Dk.Calm 0 s) ∧ Hid (∀ k, s.get k = s0.get k) ∧ Hid (Dk.Txs wr w2.heap.size (.slice (some ⟨g, 0, none⟩) 6 cap) (Dk.secs s0 6))) (fun i _ => 5 - (intOf i).toNat)
    case atStart => exact ⟨0, s0, by omega, rfl, HL3, HC0, fun _ => rfl, HT3⟩
    case round =>
      obtain ⟨j, s, hj, rfl, HLj, HCj, HGj, HTj⟩ := hrel
      clear HL3 HT3 HC0
      by_cases h1 : (j : Int) < times ∧ j < 5
      · obtain ⟨h1, h2⟩ := h1
        have HH := Lib.hid (show Dk.S.has { s with down := true } 0 = true from Dk.has_of (by omega) (by rw [show ({ s with down := true } : Dk.S).n = 6 from HCj.out.n6]; omega))
        have HW := Lib.hid (show ({ s with down := true } : Dk.S).wait.length < 100000 by rw [show ({ s with down := true } : Dk.S).wait = [] from HCj.out.wait0]; decide)
        have H0 := Lib.hid (show ({ s with down := true } : Dk.S).left = 0 from HCj.out.l0)
        have HWl := Lib.hid (show (({ s with down := true } : Dk.S).wait.length : Int) = 0 by rw [show ({ s with down := true } : Dk.S).wait = [] from HCj.out.wait0]; rfl)
        go_wp2_with (first
          | (go_at_call 18; refine (cut_live HLj.out).mono ?_; rintro e w4 ⟨rfl, HL4, HS4⟩; have HT4 := Lib.hid (HTj.out.kept (HS4.out g (.inr rfl))))
          | (go_at_call 22; refine (read_down HL4.out HH.out rfl).mono ?_; rintro e w5 ⟨rfl, rfl⟩)
          | (go_at_call 23; refine (flush_down HL4.out rfl HW.out (by rw [H0.out]; omega) (by rw [H0.out]; omega)).mono ?_; rintro e w5 ⟨rfl, HL5, HS5⟩; have HT5 := Lib.hid (HT4.out.kept (HS5.out g (.inr rfl))))
          | (go_at_call 15; refine (full_nil' HL5.out).mono ?_; rintro e w6 ⟨rfl, HQ6, HS6⟩; have HT6 := Lib.hid (HT5.out.kept (HS6.out g (.inr rfl))))
          | (go_at_call 16; refine (write_down HQ6.out Dk.length_zeros HH.out rfl HW.out (by rw [H0.out]; omega) (by rw [H0.out]; omega)).mono ?_; rintro e w7 ⟨rfl, HQ7, HS7⟩; have HT7 := Lib.hid (HT6.out.kept (HS7.out g (.inr rfl))); have HL7 := Lib.hid (HQ7.out.1.fewer (Y := fun k => False ∨ k = g) (fun k h => .inl h)))
          | (go_at_call 17; refine (waiting_live HL7.out).mono ?_; rw [HWl.out]; rintro e w8 ⟨rfl, rfl⟩)
          | (go_at_call 19; refine (restart_live HL7.out (HBw.out _ HL7.out.bl) HW.out).mono ?_; rintro e w9 ⟨rfl, HL9, HS9⟩; have HT9 := Lib.hid (HT7.out.kept (HS9.out g (.inr rfl)))))
        go_roundw
        case rel => exact ⟨j + 1, _, by omega, by go_num, HL9, HCj.out.cut m, fun k => (Dk.get_restart0 HCj.out.wait0 m k).trans (HGj.out k), HT9⟩
        case measure => simp [intOf]; omega
      · have HE : Hid (Dk.secs s 6 = Dk.secs s0 6) := Dk.secs_congr HGj.out
        by_cases h1t : (j : Int) < times
        · have h2 : ¬ j < 5 := fun h => h1 ⟨h1t, h⟩
          clear h1
          go_wp2_with (first
            | (go_at_call 14; refine (sectors_any w1 wr _ _ s HLj.out HCj.out.n6 HCj.out.up).mono ?_; rintro e w5 ⟨g5, cap5, rfl, hg5, HT5, hb5⟩; rw [HE.out] at HT5)
            | (go_at_call 21; refine (same_yes _ g5 g _ _ cap5 cap (Dk.secs s0 6) (by rw [Dk.length_secs]; omega) (by rw [Dk.length_secs]) (by rw [Dk.length_secs]) (fun j hj => HT5.out.cell j hj) (fun j hj => (HTj.out.below hb5).cell j hj)).mono ?_; rintro e w6 ⟨rfl, hb6⟩))
          go_ret
          have hb56 := HLj.out.bl.trans (hb5.mono HLj.out.bl.size)
          exact ⟨rfl, hb1.trans ((hb56.trans (hb6.mono hb56.size)).mono hb1.size)⟩
        · clear h1
          go_wp2_with (first
            | (go_at_call 14; refine (sectors_any w1 wr _ _ s HLj.out HCj.out.n6 HCj.out.up).mono ?_; rintro e w5 ⟨g5, cap5, rfl, hg5, HT5, hb5⟩; rw [HE.out] at HT5)
            | (go_at_call 21; refine (same_yes _ g5 g _ _ cap5 cap (Dk.secs s0 6) (by rw [Dk.length_secs]; omega) (by rw [Dk.length_secs]) (by rw [Dk.length_secs]) (fun j hj => HT5.out.cell j hj) (fun j hj => (HTj.out.below hb5).cell j hj)).mono ?_; rintro e w6 ⟨rfl, hb6⟩))
          go_ret
          have hb56 := HLj.out.bl.trans (hb5.mono HLj.out.bl.size)
          exact ⟨rfl, hb1.trans ((hb56.trans (hb6.mono hb56.size)).mono hb1.size)⟩

set_option maxRecDepth 100000 in
theorem diskFlushed_lifted (os : Os) (started : os.Started) (H : Type) (enc : TypeId × Value → H) :
    ReturnsInHanded {} Try.checked os 5 .any (Rows.diskFlushedSpec.pre6 enc Try.prog Try.f5 Rows.diskFlushedRow.domain false) (Rows.diskFlushedSpec.post enc Try.prog Try.f5 false true false false) := by
  refine returnsInHanded_of_change (C := Try.checked) own started (by kernel_rfl) Try.func5
    (ChangeSpec.witness6 (enc := enc) (C := Try.checked) false ⟨#[], #[.slice none 0 0, .slice none 0 0, .int .i64 0], []⟩ 8 (by kernel_rfl) (by kernel_rfl) (by kernel_rfl) (by kernel_rfl)) ?_
  intro W base args ds gs before hval0 hW hcnd _
  have hval : ∀ (j : Nat) t v, Try.f5.params[j]? = some t → args[j]? = some v → Value.okWide Try.prog W .any base t v := hval0
  have hW' := hW
  obtain ⟨p, q, hA0, hV, rfl, hfz, hnd⟩ := hW
  have hA : DataW.TrodAll enc Try.prog W 0 (fun _ => true) true Try.f5.params.toList args.toList ds p := hA0
  rw [Try.params5] at hA hval
  obtain ⟨v0, vs0, d0, ds0, p0, q0, hargs, rfl, rfl, h0, r0⟩ := trodAll_cons hA
  obtain ⟨v1, vs1, d1, ds1, p1, q1, rfl, rfl, rfl, h1, r1⟩ := trodAll_cons r0
  obtain ⟨v2, vs2, d2, ds2, p2, q2, rfl, rfl, rfl, h2, r2⟩ := trodAll_cons r1
  obtain ⟨rfl, rfl, rfl⟩ := trodAll_nil r2
  obtain rfl : args = #[v0, v1, v2] := by cases args; simp_all
  obtain ⟨rfl, rfl⟩ := trodVars_none hV
  obtain ⟨a0, len0, cap0, rfl⟩ := okWide_slice Try.underlying22 (hval 0 22 v0 rfl rfl)
  have k0 := h0
  have lt0 : ∀ x ∈ p0, x.block < W.heap.size := by obtain ⟨m, hm⟩ := k0; exact DataW.trod_lt m _ _ _ hm
  obtain ⟨fuel0, hf0⟩ := h0
  obtain ⟨A0, l0, c0, hcs0, b0⟩ := Dk.trod_acts hf0
  simp only [Value.cells, List.cons.injEq, and_true, Value.slice.injEq] at hcs0
  obtain ⟨rfl, rfl, rfl⟩ := hcs0
  obtain ⟨a1, len1, cap1, rfl⟩ := okWide_slice Try.underlying35 (hval 1 35 v1 rfl rfl)
  have k1 := h1
  have lt1 : ∀ x ∈ p1, x.block < W.heap.size := by obtain ⟨m, hm⟩ := k1; exact DataW.trod_lt m _ _ _ hm
  obtain ⟨fuel1, hf1⟩ := h1
  obtain ⟨A1, l1, c1, hcs1, b1⟩ := Dk.trod_bools hf1
  simp only [Value.cells, List.cons.injEq, and_true, Value.slice.injEq] at hcs1
  obtain ⟨rfl, rfl, rfl⟩ := hcs1
  obtain ⟨a2, rfl, rfl, rfl, w2⟩ := open_int Try.underlying3 (hval 2 3 v2 rfl rfl) h2
  clear hA0 hval0
  refine (flushed_walk W _ l0 _ b0 _ l1 _ b1 a2 w2).mono fun e W' ⟨he, bel⟩ => ?_
  subst he
  exact ⟨_, rfl, _, _, _, [], _, [], hW', trodAll_mk1 (shut_bool Try.underlying4 _), (trodAll_cons_mk (Below.trod laidOut (by kernel_rfl) (of_decide_eq_true (by kernel_rfl)) k0 bel lt0) (trodAll_cons_mk (Below.trod laidOut (by kernel_rfl) (of_decide_eq_true (by kernel_rfl)) k1 bel lt1) (trodAll_cons_mk (shut_int Try.underlying3 w2) (trodAll_mk0)))), rfl, bel.frame _, fun h => by cases h⟩

/-- The statement DiskFlushed. -/
theorem diskFlushed_holds : Rows.DiskFlushedSaid :=
  OpenClaim.holds_of_wide 5 Try.f5 rfl rfl rfl rfl rfl rfl rfl ⟨rfl, rfl, rfl, rfl, rfl⟩ rfl rfl rfl rfl rfl (by kernel_rfl) Try.func5 (by kernel_rfl)
    (of_decide_eq_true (by kernel_rfl)) (by unfold Func.isWrapper; first | (rw [if_pos (by decide +kernel)]; kernel_rfl) | (rw [if_neg (by decide +kernel)]; exact ⟨rfl, rfl⟩))
    (fun os started H enc _ => diskFlushed_lifted os started H enc)
#print axioms diskFlushed_holds

end Go.Proofs.Ytngpdjkeoodigaa
