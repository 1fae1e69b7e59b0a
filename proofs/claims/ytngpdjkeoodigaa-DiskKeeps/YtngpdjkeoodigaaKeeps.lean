/- DiskKeeps: behind a crash each sector is as the last of its writes that was kept has laid it, or else as it was at the last flush; for every input. -/
import Derived.Test.YtngpdjkeoodigaaLawB
namespace Go.Proofs.Ytngpdjkeoodigaa
open Go.ChangeShapes Go.WideShapes Go.ChangeAt Go.RowKit
set_option linter.unusedVariables false

set_option maxRecDepth 100000 in
set_option maxHeartbeats 4000000 in
theorem keeps_walk (w : World) (A : Option Addr) (l : List Dk.ActD) (c : Nat) (hA : Dk.Acts w (· < w.heap.size) A l ∧ l.length ≤ 9223372036854775807) (A2 : Option Addr) (zs : List Int) (c2 : Nat) (hz : Dk.Ints w (· < w.heap.size) A2 zs ∧ zs.length ≤ 9223372036854775807 ∧ ∀ n ∈ zs, (Lit.int .i64 n).wf = true) (A' : Option Addr) (m : List Bool) (c' : Nat) (hb : Dk.Bls w (· < w.heap.size) A' m ∧ m.length ≤ 9223372036854775807 ∧ m.length ≤ c' ∧ (A' = none → c' = 0)) :
    Calls Try.prog 4 #[.slice A l.length c, .slice A2 zs.length c2, .slice A' m.length c'] w fun e w' => e = .returned (.bool true) ∧ Below w.heap.size w w' := by
  obtain ⟨hB, hm, -, -⟩ := hb
  obtain ⟨hA, hl⟩ := hA
  obtain ⟨hZ, hzl, hzw⟩ := hz
  have HB := Lib.hid hB
  have HA := Lib.hid hA
  have HZ := Lib.hid hZ
  have HZW := Lib.hid hzw
  clear hB hA hZ hzw
  by_cases h100 : 100 < l.length
  · go_enter Try.func4, Try.ntmps4
    go_wp2_with (go_at_call 8; refine (awake_any _).mono ?_; rintro e w1 ⟨rfl, hb1⟩)
    go_ret
    exact ⟨rfl, hb1⟩
  by_cases h101 : 100 < zs.length
  · go_enter Try.func4, Try.ntmps4
    go_wp2_with (go_at_call 8; refine (awake_any _).mono ?_; rintro e w1 ⟨rfl, hb1⟩)
    go_ret
    exact ⟨rfl, hb1⟩
  · go_enter Try.func4, Try.ntmps4
    go_wp2_with (first
      | (go_at_call 8; refine (awake_any _).mono ?_; rintro e w1 ⟨rfl, hb1⟩)
      | (go_at_call 13; refine (made_any w1 A l c ((HA.out.below hb1).imp (fun k hk => Nat.lt_of_lt_of_le hk hb1.size)) (by omega)).mono ?_; rintro e w2 ⟨rfl, HM⟩; obtain ⟨s0, HL2', HC0'⟩ := HM.out; have HL2 := Lib.hid HL2'; have HC0 := Lib.hid HC0'; clear HM HL2' HC0')
      | (go_at_call 14; refine (sectors_any w1 w2 _ _ s0 HL2.out HC0.out.n6 HC0.out.up).mono ?_; rintro e w3 ⟨g, cap, rfl, hg, HT3, hb3⟩))
    have HL3 := Lib.hid (HL2.out.moreg hb3 hg HT3.out.lt')
    have hw12 := HL2.out.bl.size
    have hg1 : w1.heap.size ≤ g := by omega
    have HBw : Hid (∀ w', Below w1.heap.size w1 w' → Dk.Bls w' (· < w.heap.size) A' m) := fun w' hb' =>
      HB.out.below (hb1.trans (hb'.mono hb1.size))
    have HZw : Hid (∀ w', Below w1.heap.size w1 w' → Dk.Ints w' (· < w.heap.size) A2 zs) := fun w' hb' =>
      HZ.out.below rfl (hb1.trans (hb'.mono hb1.size))
    have HE0 : Hid (Dk.secs s0 6 = Dk.secs (s0.restart m) 6) := Dk.secs_congr (fun k => (Dk.restart_empty HC0.out.wait0 m k).symm)
    have HW0 := Lib.hid (show s0.wait.length = 0 by rw [HC0.out.wait0]; rfl)
    clear HA HB HZ HL2 hb3
    go_loopw [10] (fun i wr => ∃ (j : Nat) (s : Dk.S), j ≤ zs.length ∧ i = .int .i64 j ∧ Hid (Dk.Live w1 (fun k => False ∨ k = g) wr (w1.heap.size + 1 + 1) s) ∧ Hid (Dk.Calm j s) ∧ Hid (s.wait.length = j) ∧ Hid (Dk.Txs wr w2.heap.size (.slice (some ⟨g, 0, none⟩) 6 cap) (Dk.secs (s.restart m) 6))) (fun i _ => zs.length - (intOf i).toNat)
    case atStart => exact ⟨0, s0, by omega, rfl, HL3, HC0, HW0, by rw [← HE0.out]; exact HT3⟩
    case round =>
      obtain ⟨j, s, hj, rfl, HLj, HCj, HNj, HTj⟩ := hrel
      clear HL3 HT3 HC0 HE0 HW0
      have HW := Lib.hid (show s.wait.length < 100000 by rw [HNj.out]; omega)
      have HS0 := Lib.hid (show 0 ≤ s.left ∧ s.left ≤ 9223372036854775807 by rw [HCj.out.l0]; omega)
      by_cases h1 : j < zs.length
      · obtain ⟨zb, zo, rfl, -, -⟩ := HZw.out wr HLj.out.bl (by omega)
        have HCZ : Hid (∀ w', Below w1.heap.size w1 w' → w'.cell? ⟨zb, zo + j, none⟩ = some (.int .i64 zs[j])) := fun w' hb' => by
          obtain ⟨b', o', e, _, hc⟩ := HZw.out w' hb' (by omega)
          injection e with e
          injection e with e1 e2
          subst e1
          subst e2
          exact hc j h1
        obtain ⟨hxl, hxh⟩ := bounds_i64 (HZW.out zs[j] (List.getElem_mem h1))
        generalize zs[j] = x at HCZ hxl hxh
        by_cases hleg : 0 ≤ x ∧ x < 6
        · obtain ⟨hx0, hx6⟩ := hleg
          have HH := Lib.hid (show s.has x = true from Dk.has_of hx0 (by rw [HCj.out.n6]; exact hx6))
          obtain ⟨n, rfl⟩ : ∃ n : Nat, x = (n : Int) := ⟨x.toNat, by omega⟩
          have hn6 : n < 6 := by omega
          by_cases hm1 : j < m.length
          · obtain ⟨mb, mo, rfl, -, -⟩ := HBw.out wr HLj.out.bl (by omega)
            have HCB : Hid (∀ w', Below w1.heap.size w1 w' → w'.cell? ⟨mb, mo + j, none⟩ = some (.bool m[j])) := fun w' hb' => by
              obtain ⟨b', o', e, _, hc⟩ := HBw.out w' hb' (by omega)
              injection e with e
              injection e with e1 e2
              subst e1
              subst e2
              exact hc j hm1
            cases hkj : m[j] with
            | true =>
              have HK := Lib.hid (show m.getD s.wait.length false = true by rw [HNj.out]; simp [List.getD, hm1, hkj])
              rw [hkj] at HCB
              clear hkj
              go_wp2_with (first
                | (go_at_call 15; refine (full_two HLj.out (by omega) (by omega)).mono ?_; rintro e w5 ⟨rfl, HQ', HSn⟩; have hc5 := HCZ.out w5 HQ'.out.1.bl; have HT5 := Lib.hid (HTj.out.kept (HSn.out g (.inr rfl))); have HQ : Hid (Dk.Ready _ _ _ _ _ _ (Dk.lth j)) := HQ'; clear HSn HLj HQ')
                | (go_at_call 16; refine (write_calm HQ.out (Dk.length_lth j) HH.out HCj.out.up HCj.out.nf HW.out HS0.out.1 HS0.out.2).mono ?_; rintro e w6 ⟨rfl, HQ6, HS6⟩; have hc6 := HCZ.out w6 HQ6.out.1.bl; have hk6 := HCB.out w6 HQ6.out.1.bl; have HT6 := Lib.hid (HT5.out.kept (HS6.out g (.inr rfl))); clear HS6))
              have HL6 := Lib.hid (HQ6.out.1.fewer (Y := fun k => False ∨ k = g) (fun k h => .inl h))
              have q1 := Dk.conv512 (w := w6.drew) (HQ6.out.2.1.kept rfl) (Dk.length_lth j)
              have q2 := Dk.conv512 HQ6.out.2.1 (Dk.length_lth j)
              have t1 := HT6.out.cell n (by rw [Dk.length_secs]; exact hn6)
              have t2 := HT6.out.free n
              have HTn := Lib.hid (HT6.out.set n (Dk.lth j))
              rw [← Dk.secs_set n (Dk.lth j) (Dk.restart_put_get (n : Int) (Dk.lth j) HK.out)] at HTn
              have HLn := Lib.hid (HL6.out.fr (Dk.Fr.setCell w6 (p := ⟨g, n, none⟩) (.inr rfl) (Dk.str (Dk.lth j))) (fun q hq => by rcases hq with hq | hq <;> first | exact hq.elim | omega))
              have HNn := Lib.hid (show (s.put (n : Int) (Dk.lth j)).wait.length = j + 1 by simp [Dk.S.put, HNj.out])
              unfold Dk.str at HTn HLn t1
              clear HQ6 HL6 HT6
              go_still_tail 8, (by kernel_rfl)
              change wpList _ _ _ _ _ w6.drew
              go_wp2
              go_roundw
              case rel => exact ⟨j + 1, _, by omega, by go_num, HLn.out.drew, HCj.out.put _ _, HNn, HTn⟩
              case measure => simp [intOf]; omega
            | false =>
              have HK := Lib.hid (show m.getD s.wait.length false = false by rw [HNj.out]; simp [List.getD, hm1, hkj])
              rw [hkj] at HCB
              clear hkj
              go_wp2_with (first
                | (go_at_call 15; refine (full_two HLj.out (by omega) (by omega)).mono ?_; rintro e w5 ⟨rfl, HQ', HSn⟩; have hc5 := HCZ.out w5 HQ'.out.1.bl; have HT5 := Lib.hid (HTj.out.kept (HSn.out g (.inr rfl))); have HQ : Hid (Dk.Ready _ _ _ _ _ _ (Dk.lth j)) := HQ'; clear HSn HLj HQ')
                | (go_at_call 16; refine (write_calm HQ.out (Dk.length_lth j) HH.out HCj.out.up HCj.out.nf HW.out HS0.out.1 HS0.out.2).mono ?_; rintro e w6 ⟨rfl, HQ6, HS6⟩; have hc6 := HCZ.out w6 HQ6.out.1.bl; have hk6 := HCB.out w6 HQ6.out.1.bl; have HT6 := Lib.hid (HT5.out.kept (HS6.out g (.inr rfl))); clear HS6))
              have HL6 := Lib.hid (HQ6.out.1.fewer (Y := fun k => False ∨ k = g) (fun k h => .inl h))
              have HNn := Lib.hid (show (s.put (n : Int) (Dk.lth j)).wait.length = j + 1 by simp [Dk.S.put, HNj.out])
              have HE := Lib.hid (Dk.secs_congr (k := 6) (Dk.restart_put_lost (n : Int) (Dk.lth j) HK.out))
              go_roundw
              case rel => exact ⟨j + 1, _, by omega, by go_num, HL6, HCj.out.put _ _, HNn, by rw [HE.out]; exact HT6⟩
              case measure => simp [intOf]; omega
          · have HK := Lib.hid (show m.getD s.wait.length false = false by rw [HNj.out]; simp [List.getD, hm1])
            go_wp2_with (first
              | (go_at_call 15; refine (full_two HLj.out (by omega) (by omega)).mono ?_; rintro e w5 ⟨rfl, HQ', HSn⟩; have hc5 := HCZ.out w5 HQ'.out.1.bl; have HT5 := Lib.hid (HTj.out.kept (HSn.out g (.inr rfl))); have HQ : Hid (Dk.Ready _ _ _ _ _ _ (Dk.lth j)) := HQ'; clear HSn HLj HQ')
              | (go_at_call 16; refine (write_calm HQ.out (Dk.length_lth j) HH.out HCj.out.up HCj.out.nf HW.out HS0.out.1 HS0.out.2).mono ?_; rintro e w6 ⟨rfl, HQ6, HS6⟩; have hc6 := HCZ.out w6 HQ6.out.1.bl; have HT6 := Lib.hid (HT5.out.kept (HS6.out g (.inr rfl))); clear HS6))
            have HL6 := Lib.hid (HQ6.out.1.fewer (Y := fun k => False ∨ k = g) (fun k h => .inl h))
            have HNn := Lib.hid (show (s.put (n : Int) (Dk.lth j)).wait.length = j + 1 by simp [Dk.S.put, HNj.out])
            have HE := Lib.hid (Dk.secs_congr (k := 6) (Dk.restart_put_lost (n : Int) (Dk.lth j) HK.out))
            go_roundw
            case rel => exact ⟨j + 1, _, by omega, by go_num, HL6, HCj.out.put _ _, HNn, by rw [HE.out]; exact HT6⟩
            case measure => simp [intOf]; omega
        · have HH := Lib.hid (show s.has x = false from Dk.hasn_of (by rw [HCj.out.n6]; exact hleg))
          by_cases hx0 : 0 ≤ x
          · have hx6 : ¬ x < 6 := fun h => hleg ⟨hx0, h⟩
            have hd6 : decide (x < 6) = false := decide_eq_false hx6
            clear hleg
            go_wp2_with (first
              | (go_at_call 15; refine (full_two HLj.out (by omega) (by omega)).mono ?_; rintro e w5 ⟨rfl, HQ', HSn⟩; have hc5 := HCZ.out w5 HQ'.out.1.bl; have HT5 := Lib.hid (HTj.out.kept (HSn.out g (.inr rfl))); have HQ : Hid (Dk.Ready _ _ _ _ _ _ (Dk.lth j)) := HQ'; clear HSn HLj HQ')
              | (go_at_call 16; refine (write_far HQ.out (Dk.length_lth j) HH.out HW.out HS0.out.1 HS0.out.2).mono ?_; rintro e w6 ⟨rfl, HQ6, HS6⟩))
            go_ret
            exact ⟨rfl, hb1.trans (HQ6.out.1.bl.mono hb1.size)⟩
          · clear hleg
            go_wp2_with (first
              | (go_at_call 15; refine (full_two HLj.out (by omega) (by omega)).mono ?_; rintro e w5 ⟨rfl, HQ', HSn⟩; have hc5 := HCZ.out w5 HQ'.out.1.bl; have HT5 := Lib.hid (HTj.out.kept (HSn.out g (.inr rfl))); have HQ : Hid (Dk.Ready _ _ _ _ _ _ (Dk.lth j)) := HQ'; clear HSn HLj HQ')
              | (go_at_call 16; refine (write_far HQ.out (Dk.length_lth j) HH.out HW.out HS0.out.1 HS0.out.2).mono ?_; rintro e w6 ⟨rfl, HQ6, HS6⟩))
            go_ret
            exact ⟨rfl, hb1.trans (HQ6.out.1.bl.mono hb1.size)⟩
      · have HJ := Lib.hid (show j = zs.length by omega)
        have HNz : Hid ((s.wait.length : Int) = (zs.length : Int)) := by rw [HNj.out, HJ.out]; rfl
        go_wp2_with (first
          | (go_at_call 17; first
              | (refine (waiting_live HLj.out).mono ?_; rw [HNz.out]; rintro e w4 ⟨rfl, rfl⟩; clear HNz)
              | (refine (waiting_live HL6.out).mono ?_; rintro e w4 ⟨rfl, rfl⟩))
          | (go_at_call 18; refine (cut_live HLj.out).mono ?_; rintro e w5 ⟨rfl, HL5, HS5⟩; have HT5 := Lib.hid (HTj.out.kept (HS5.out g (.inr rfl))); clear HLj)
          | (go_at_call 19; refine (restart_live HL5.out ((HBw.out _ HL5.out.bl).imp (fun k hk => .inl (Nat.lt_of_lt_of_le hk hb1.size))) HW.out).mono ?_; rintro e w6 ⟨rfl, HL6, HS6⟩; have HT6 := Lib.hid (HT5.out.kept (HS6.out g (.inr rfl))); rw [Dk.cut_restart] at HL6)
          | (go_at_call 20; refine (down_live HL6.out).mono ?_; rintro e w4 ⟨rfl, rfl⟩)
          | (go_at_call 14; refine (sectors_any w1 w6 _ _ (s.restart m) HL6.out HCj.out.n6 rfl).mono ?_; rintro e w7 ⟨g7, cap7, rfl, hg7, HT7, hb7⟩)
          | (go_at_call 21; refine (same_yes _ g7 g _ _ cap7 cap (Dk.secs (s.restart m) 6) (by rw [Dk.length_secs]; omega) (by rw [Dk.length_secs]) (by rw [Dk.length_secs]) (fun j hj => HT7.out.cell j hj) (fun j hj => (HT6.out.below hb7).cell j hj)).mono ?_; rintro e w8 ⟨rfl, hb8⟩))
        go_ret
        have hb67 := HL6.out.bl.trans (hb7.mono HL6.out.bl.size)
        exact ⟨rfl, hb1.trans ((hb67.trans (hb8.mono hb67.size)).mono hb1.size)⟩

set_option maxRecDepth 100000 in
theorem diskKeeps_lifted (os : Os) (started : os.Started) (H : Type) (enc : TypeId × Value → H) :
    ReturnsInHanded {} Try.checked os 4 .any (Rows.diskKeepsSpec.pre6 enc Try.prog Try.f4 Rows.diskKeepsRow.domain false) (Rows.diskKeepsSpec.post enc Try.prog Try.f4 false true false false) := by
  refine returnsInHanded_of_change (C := Try.checked) own started (by kernel_rfl) Try.func4
    (ChangeSpec.witness6 (enc := enc) (C := Try.checked) false ⟨#[], #[.slice none 0 0, .slice none 0 0, .slice none 0 0], []⟩ 8 (by kernel_rfl) (by kernel_rfl) (by kernel_rfl) (by kernel_rfl)) ?_
  intro W base args ds gs before hval0 hW hcnd _
  have hval : ∀ (j : Nat) t v, Try.f4.params[j]? = some t → args[j]? = some v → Value.okWide Try.prog W .any base t v := hval0
  have hW' := hW
  obtain ⟨p, q, hA0, hV, rfl, hfz, hnd⟩ := hW
  have hA : DataW.TrodAll enc Try.prog W 0 (fun _ => true) true Try.f4.params.toList args.toList ds p := hA0
  rw [Try.params4] at hA hval
  obtain ⟨v0, vs0, d0, ds0, p0, q0, hargs, rfl, rfl, h0, r0⟩ := trodAll_cons hA
  obtain ⟨v1, vs1, d1, ds1, p1, q1, rfl, rfl, rfl, h1, r1⟩ := trodAll_cons r0
  obtain ⟨v2, vs2, d2, ds2, p2, q2, rfl, rfl, rfl, h2, r2⟩ := trodAll_cons r1
  obtain ⟨rfl, rfl, rfl⟩ := trodAll_nil r2
  obtain rfl : args = #[v0, v1, v2] := by cases args; simp_all
  obtain ⟨rfl, rfl⟩ := trodVars_none hV
  obtain ⟨a0, len0, cap0, rfl⟩ := okWide_slice Try.underlying22 (hval 0 22 v0 rfl rfl)
  have k0 := h0
  have lt0 : ∀ x ∈ p0, x.block < W.heap.size := by obtain ⟨m, hm⟩ := k0; exact DataW.trod_lt m _ _ _ hm
  obtain ⟨fuel0, hf0⟩ := h0
  obtain ⟨A0, l0, c0, hcs0, b0⟩ := Dk.trod_acts hf0
  simp only [Value.cells, List.cons.injEq, and_true, Value.slice.injEq] at hcs0
  obtain ⟨rfl, rfl, rfl⟩ := hcs0
  obtain ⟨a1, len1, cap1, rfl⟩ := okWide_slice Try.underlying40 (hval 1 40 v1 rfl rfl)
  have k1 := h1
  have lt1 : ∀ x ∈ p1, x.block < W.heap.size := by obtain ⟨m, hm⟩ := k1; exact DataW.trod_lt m _ _ _ hm
  obtain ⟨fuel1, hf1⟩ := h1
  obtain ⟨A1, l1, c1, hcs1, b1⟩ := Dk.trod_ints hf1
  simp only [Value.cells, List.cons.injEq, and_true, Value.slice.injEq] at hcs1
  obtain ⟨rfl, rfl, rfl⟩ := hcs1
  obtain ⟨a2, len2, cap2, rfl⟩ := okWide_slice Try.underlying35 (hval 2 35 v2 rfl rfl)
  have k2 := h2
  have lt2 : ∀ x ∈ p2, x.block < W.heap.size := by obtain ⟨m, hm⟩ := k2; exact DataW.trod_lt m _ _ _ hm
  obtain ⟨fuel2, hf2⟩ := h2
  obtain ⟨A2, l2, c2, hcs2, b2⟩ := Dk.trod_bools hf2
  simp only [Value.cells, List.cons.injEq, and_true, Value.slice.injEq] at hcs2
  obtain ⟨rfl, rfl, rfl⟩ := hcs2
  clear hA0 hval0
  refine (keeps_walk W _ l0 _ b0 _ l1 _ b1 _ l2 _ b2).mono fun e W' ⟨he, bel⟩ => ?_
  subst he
  exact ⟨_, rfl, _, _, _, [], _, [], hW', trodAll_mk1 (shut_bool Try.underlying4 _), (trodAll_cons_mk (Below.trod laidOut (by kernel_rfl) (of_decide_eq_true (by kernel_rfl)) k0 bel lt0) (trodAll_cons_mk (Below.trod laidOut (by kernel_rfl) (of_decide_eq_true (by kernel_rfl)) k1 bel lt1) (trodAll_cons_mk (Below.trod laidOut (by kernel_rfl) (of_decide_eq_true (by kernel_rfl)) k2 bel lt2) (trodAll_mk0)))), rfl, bel.frame _, fun h => by cases h⟩

/-- The statement DiskKeeps. -/
theorem diskKeeps_holds : Rows.DiskKeepsSaid :=
  OpenClaim.holds_of_wide 4 Try.f4 rfl rfl rfl rfl rfl rfl rfl ⟨rfl, rfl, rfl, rfl, rfl⟩ rfl rfl rfl rfl rfl (by kernel_rfl) Try.func4 (by kernel_rfl)
    (of_decide_eq_true (by kernel_rfl)) (by unfold Func.isWrapper; first | (rw [if_pos (by decide +kernel)]; kernel_rfl) | (rw [if_neg (by decide +kernel)]; exact ⟨rfl, rfl⟩))
    (fun os started H enc _ => diskKeeps_lifted os started H enc)
#print axioms diskKeeps_holds

end Go.Proofs.Ytngpdjkeoodigaa
