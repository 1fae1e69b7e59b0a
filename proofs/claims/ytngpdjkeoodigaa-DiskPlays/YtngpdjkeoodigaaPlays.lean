/- The statement DiskPlays. -/
import Derived.Test.YtngpdjkeoodigaaPlayE
namespace Go.Proofs.Ytngpdjkeoodigaa
open Go.ChangeShapes Go.WideShapes Go.ChangeAt Go.RowKit
set_option linter.unusedVariables false

set_option maxRecDepth 100000 in
set_option maxHeartbeats 4000000 in
theorem plays_walk (w : World) (n : Int) (wf : (Lit.int .i64 n).wf = true) (A : Option Addr) (l : List Dk.ActD) (c : Nat) (hA : (Dk.Acts w (· < w.heap.size) A l ∧ l.length ≤ 9223372036854775807) ∧ ∀ j (hj : j < l.length), l[j].data.length ≤ 140737488355328 ∧ l[j].keep.length ≤ 140737488355328) :
    Calls Try.prog 3 #[.int .i64 n, .slice A l.length c] w fun e w' => e = .returned (.bool true) ∧ Below w.heap.size w w' := by
  obtain ⟨hlo, hhi⟩ := bounds_i64 wf
  obtain ⟨⟨hA, hl⟩, hR⟩ := hA
  have HA := Lib.hid hA
  have HR := Lib.hid hR
  clear wf hA hR
  by_cases h200 : 200 < l.length
  · go_enter Try.func3, Try.ntmps3
    go_wp2_with (go_at_call 8; refine (awake_any _).mono ?_; rintro e w1 ⟨rfl, hb1⟩)
    go_ret
    exact ⟨rfl, hb1⟩
  by_cases hbad : n < 1 ∨ 4096 < n
  · rcases hbad with hbad | hbad
    · go_enter Try.func3, Try.ntmps3
      go_wp2_with (first
        | (go_at_call 8; refine (awake_any _).mono ?_; rintro e w1 ⟨rfl, hb1⟩)
        | (go_at_call 9; refine (new_bad n w1 (.inl hbad)).mono ?_; rintro e w2 ⟨rfl, rfl⟩))
      go_ret
      exact ⟨rfl, hb1⟩
    · go_enter Try.func3, Try.ntmps3
      go_wp2_with (first
        | (go_at_call 8; refine (awake_any _).mono ?_; rintro e w1 ⟨rfl, hb1⟩)
        | (go_at_call 9; refine (new_bad n w1 (.inr hbad)).mono ?_; rintro e w2 ⟨rfl, rfl⟩))
      go_ret
      exact ⟨rfl, hb1⟩
  obtain ⟨hn1, hn2⟩ : 1 ≤ n ∧ n ≤ 4096 := by omega
  clear hbad
  have HN := Lib.hid (And.intro hn1 hn2)
  go_enter Try.func3, Try.ntmps3
  go_wp2_with (first
    | (go_at_call 8; refine (awake_any _).mono ?_; rintro e w1 ⟨rfl, hb1⟩)
    | (go_at_call 9; refine (new_live n w1 hn1 hn2).mono ?_; rintro e w2 ⟨rfl, HL2⟩)
    | (refine Dk.wpList_alloc rfl 30 rfl _ (Dk.z30 _) ?_; intro w3 hz3 hb3 hs3; have HL3 := Lib.hid (HL2.out.below hb3).1; have HR3 := Lib.hid (show Dk.RR w3 ⟨n, [], [], false, false, 0⟩ (.slice none 0 0) (.slice none 0 0) from ⟨Dk.RW.nil _, Dk.RW.nil _, by show 0 + 0 < 50000; omega⟩))
    | (refine Dk.wpList_store30 rfl _ _ rfl w2.heap.size rfl ⟨n, [], [], false, false, 0⟩ (.slice none 0 0) (.slice none 0 0) rfl _ hz3 rfl HR3.out ?_; intro w4 hr4 hf4; have HB4 := Lib.hid hr4; have k0 : w4.cell? ⟨w2.heap.size, 0, none⟩ = some (.int .i64 n) := hr4.c0; have k1 : w4.cell? ⟨w2.heap.size, 1, none⟩ = some (.slice none 0 0) := hr4.c1; have k2 : w4.cell? ⟨w2.heap.size, 2, none⟩ = some (.slice none 0 0) := hr4.c2; have k3 : w4.cell? ⟨w2.heap.size, 3, none⟩ = some (.bool false) := hr4.c3; have k4 : w4.cell? ⟨w2.heap.size, 4, none⟩ = some (.bool false) := hr4.c4; have k5 : w4.cell? ⟨w2.heap.size, 5, none⟩ = some (.int .i64 0) := hr4.c5; have HL4 := Lib.hid (HL3.out.frT hz3 (by decide) (by decide) hf4 HL2.out.bel.size); have HR4 := Lib.hid (HR3.out.frT hz3 (by decide) hf4))
    | (go_at_call 10; refine (tells_any w1 _ _ _ ⟨n, [], [], false, false, 0⟩ (.slice none 0 0) (.slice none 0 0) HL4.out HR4.out (Dk.Rel.new n) HN.out).mono ?_; rintro e w5 ⟨rfl, hb5⟩; have HL5 := Lib.hid (HL4.out.below hb5).1; have HR5 := Lib.hid (HR4.out.below hb5); have HB5 := Lib.hid (HB4.out.below hb5)))
  have hgs : w1.heap.size ≤ w2.heap.size := HL2.out.bel.size
  clear HL2 HL3 HR3 HL4 HR4 HB4 hr4 hz3 k0 k1 k2 k3 k4 k5
  go_loopw [5, 8] (fun a i wr => ∃ (j p : Nat) (s : Dk.S) (r : Dk.R) (sv wv : Value), j ≤ l.length ∧ i = .int .i64 j ∧ a = .pointer (some ⟨p, 0, none⟩) ∧ Hid (Dk.Live w1 (fun _ => False) wr p s) ∧ Hid (Dk.RR wr r sv wv) ∧ Hid (Dk.RB wr w2.heap.size r sv wv) ∧ Hid (Dk.Rel s r) ∧ Hid (r.safe.length + r.wait.length ≤ j ∧ r.n = n)) (fun _ i _ => l.length - (intOf i).toNat)
  case atStart => exact ⟨0, _, _, _, _, _, by omega, rfl, rfl, HL5, HR5, HB5, Dk.Rel.new n, ⟨Nat.le_refl _, rfl⟩⟩
  case round =>
    obtain ⟨j, p, s, r, sv, wv, hj, rfl, rfl, HLj, HRj, HBj, HSj, HCj⟩ := hrel
    clear HL5 HR5 HB5
    have hbj : Below w.heap.size w wr := hb1.trans (HLj.out.bel.mono hb1.size)
    by_cases h1 : j < l.length
    · obtain ⟨b, off, rfl, hB, hc⟩ := HA.out (by omega)
      obtain ⟨Ad, Ak, cd, ck, hat⟩ := hc j h1
      have HX := Lib.hid hat
      have HRX := Lib.hid (HR.out j h1)
      have HGX : Hid (∀ w', Below w.heap.size w w' → w'.rangeAt b (off + j * 5) (Dk.ac l[j] Ad Ak cd ck)) := fun w' hb' => (HX.out.below hB hb').range
      clear hat hc
      generalize l[j] = x at HX HRX HGX
      go_wp2_with (fail)
      have HLd := Lib.hid (HLj.out.below (Below.refl _ wr).drew).1
      have HRd := Lib.hid (HRj.out.below (Below.refl _ wr).drew)
      have HBd := Lib.hid (HBj.out.below (Below.refl _ wr).drew)
      have hbd : Below w.heap.size w wr.drew := hbj.trans ((Below.refl _ wr).drew.mono hbj.size)
      have HP : Hid (Dk.Pre w1 wr.drew p s r sv wv x Ad Ak) := ⟨HLd.out, HRd.out, HSj.out, by have := HCj.out.1; omega, (fun h0 => by obtain ⟨b', o', e', hB', hc'⟩ := (HX.out.below hB hbd).hd h0; exact ⟨b', o', e', Nat.lt_of_lt_of_le hB' hb1.size, hc'⟩), (fun h0 => by obtain ⟨b', o', e', hB', hc'⟩ := (HX.out.below hB hbd).hk h0; exact ⟨b', o', e', Nat.lt_of_lt_of_le hB' hb1.size, hc'⟩), HRX.out.1, HRX.out.2, (bounds_i64 HX.out.wn).2⟩
      refine wp_region_noPanic ?_
      refine wp_region_held_drew (S := fun w' => w'.rangeAt b (off + j * 5) (Dk.ac x Ad Ak cd ck)) (by kernel_rfl) (HGX.out _ hbd) (fun hHeld => ?_)
      refine wpAnyH_take (i := 0) (oi := ⟨some 49, _, _, _, _, _⟩) (v := ?_) rfl (by kernel_rfl) (by kernel_rfl) (by kernel_rfl) (fun _ _ _ h => h) (Or.inl ⟨by rfl, ?_⟩) (by assumption) ?_
      rotate_left
      · (intro w hSw; (try dsimp only at hSw); go_simp <;> with_reducible rfl)
      try simp only [Act.put]
      try simp only [List.setIfInBounds_toArray]
      try simp only [List.set_cons_succ]
      try simp only [List.set_cons_zero]
      refine wpAnyH_take (i := 2) (oi := ⟨some 51, _, _, _, _, _⟩) (v := ?_) rfl (by kernel_rfl) (by kernel_rfl) (by kernel_rfl) (fun _ _ _ h => h) (Or.inl ⟨by rfl, ?_⟩) (by assumption) ?_
      rotate_left
      · (intro w hSw; (try dsimp only at hSw); go_simp <;> with_reducible rfl)
      try simp only [Act.put]
      try simp only [List.setIfInBounds_toArray]
      try simp only [List.set_cons_succ]
      try simp only [List.set_cons_zero]
      refine wpAnyH_take (i := 3) (oi := ⟨some 52, _, _, _, _, _⟩) (v := ?_) rfl (by kernel_rfl) (by kernel_rfl) (by kernel_rfl) (fun _ _ _ h => h) (Or.inl ⟨by rfl, ?_⟩) (by assumption) ?_
      rotate_left
      · (intro w hSw; (try dsimp only at hSw); go_simp <;> with_reducible rfl)
      try simp only [Act.put]
      try simp only [List.setIfInBounds_toArray]
      try simp only [List.set_cons_succ]
      try simp only [List.set_cons_zero]
      refine wpAnyH_take (i := 4) (oi := ⟨some 53, _, _, _, _, _⟩) (v := ?_) rfl (by kernel_rfl) (by kernel_rfl) (by kernel_rfl) (fun _ _ _ h => h) (Or.inl ⟨by rfl, ?_⟩) (by assumption) ?_
      rotate_left
      · (intro w hSw; (try dsimp only at hSw); go_simp <;> with_reducible rfl)
      try simp only [Act.put]
      try simp only [List.setIfInBounds_toArray]
      try simp only [List.set_cons_succ]
      try simp only [List.set_cons_zero]
      refine wpAnyH_take (i := 5) (oi := ⟨some 54, _, _, _, _, _⟩) (v := Dk.av x Ad Ak cd ck) rfl (by kernel_rfl) (by kernel_rfl) (by kernel_rfl) (fun _ _ _ h => h) (yieldsIf_load_mid (by rfl) 37 _ rfl b (off + j * 5) (by rfl) (Dk.ac x Ad Ak cd ck) _ (fun _ h => h) Dk.u37 rfl Dk.i37) (by assumption) ?_
      try simp only [Act.put]
      try simp only [List.setIfInBounds_toArray]
      try simp only [List.set_cons_succ]
      try simp only [List.set_cons_zero]
      refine wpAnyH_ready (rs := [1]) (by kernel_rfl) (by simp) ?_
      refine AllReadyH.cons (o := ⟨some 50, _, _, _, _, _⟩) rfl (fun K hK => ?_) AllReadyH.nil
      rw [if_pos (by rfl)]
      refine wp_load_mid 30 _ rfl w2.heap.size 0 rfl (Dk.rc r sv wv) _ HBd.out.range Dk.u30 rfl Dk.i30 ?_
      refine hK.out _ _ (by assumption) (fun hHeld2 => ?_)
      clear hK K
      try simp only [Act.put]
      try simp only [List.setIfInBounds_toArray]
      try simp only [List.set_cons_succ]
      try simp only [List.set_cons_zero]
      refine wpAnyH_ready (rs := [6]) (by kernel_rfl) (by simp) ?_
      refine AllReadyH.cons (o := ⟨some 55, _, _, _, _, _⟩) rfl (fun K hK => ?_) AllReadyH.nil
      go_simp
      go_at_call 11
      refine (play_any w1 _ p s r sv wv x Ad Ak cd ck HP.out).mono ?_
      rintro e w6 ⟨p', s', r', sv', wv', rfl, HL6, HR6, HS6, HK6, hc6, hn6⟩
      have HB6 := Lib.hid (HBd.out.keep HK6.out)
      have hb6 : Below w.heap.size w w6 := hb1.trans (HL6.out.bel.mono hb1.size)
      have HC6 := Lib.hid (show r'.safe.length + r'.wait.length ≤ j + 1 ∧ r'.n = n from ⟨by have := HCj.out.1; omega, hn6.trans HCj.out.2⟩)
      clear hc6 hn6
      go_wp2_with (fail)
      refine hK.out _ _ (HGX.out _ hb6) (fun hHeld3 => ?_)
      clear hK K
      try simp only [Act.put]
      try simp only [List.setIfInBounds_toArray]
      try simp only [List.set_cons_succ]
      try simp only [List.set_cons_zero]
      refine wpAnyH_take (i := 7) (oi := ⟨some 48, _, _, _, _, _⟩) (v := ?_) rfl (by kernel_rfl) (by kernel_rfl) (by kernel_rfl) (fun _ _ _ h => h) (Or.inl ⟨by rfl, ?_⟩) (by assumption) ?_
      rotate_left
      · (intro w hSw; (try dsimp only at hSw); go_simp <;> with_reducible rfl)
      try simp only [Act.put]
      try simp only [List.setIfInBounds_toArray]
      try simp only [List.set_cons_succ]
      try simp only [List.set_cons_zero]
      refine wpAnyH_take (i := 8) (oi := ⟨some 56, _, _, _, _, _⟩) (v := ?_) rfl (by kernel_rfl) (by kernel_rfl) (by kernel_rfl) (fun _ _ _ h => h) (Or.inl ⟨by rfl, ?_⟩) (by assumption) ?_
      rotate_left
      · (intro w hSw; (try dsimp only at hSw); go_simp <;> with_reducible rfl)
      try simp only [Act.put]
      try simp only [List.setIfInBounds_toArray]
      try simp only [List.set_cons_succ]
      try simp only [List.set_cons_zero]
      refine wpAnyH_take (i := 9) (oi := ⟨some 57, _, _, _, _, _⟩) (v := ?_) rfl (by kernel_rfl) (by kernel_rfl) (by kernel_rfl) (fun _ _ _ h => h) (Or.inl ⟨by rfl, ?_⟩) (by assumption) ?_
      rotate_left
      · (intro w hSw; (try dsimp only at hSw); go_simp <;> with_reducible rfl)
      try simp only [Act.put]
      try simp only [List.setIfInBounds_toArray]
      try simp only [List.set_cons_succ]
      try simp only [List.set_cons_zero]
      refine wpAnyH_take (i := 10) (oi := ⟨some 58, _, _, _, _, _⟩) (v := ?_) rfl (by kernel_rfl) (by kernel_rfl) (by kernel_rfl) (fun _ _ _ h => h) (Or.inl ⟨by rfl, ?_⟩) (by assumption) ?_
      rotate_left
      · (intro w hSw; (try dsimp only at hSw); go_simp <;> with_reducible rfl)
      try simp only [Act.put]
      try simp only [List.setIfInBounds_toArray]
      try simp only [List.set_cons_succ]
      try simp only [List.set_cons_zero]
      refine wpAnyH_take (i := 11) (oi := ⟨some 5, _, _, _, _, _⟩) (v := ?_) rfl (by kernel_rfl) (by kernel_rfl) (by kernel_rfl) (fun _ _ _ h => h) (Or.inl ⟨by rfl, ?_⟩) (by assumption) ?_
      rotate_left
      · (intro w hSw; (try dsimp only at hSw); go_simp <;> with_reducible rfl)
      try simp only [Act.put]
      try simp only [List.setIfInBounds_toArray]
      try simp only [List.set_cons_succ]
      try simp only [List.set_cons_zero]
      refine wpAnyH_ready (rs := [12]) (by kernel_rfl) (by simp) ?_
      refine AllReadyH.cons (o := ⟨none, _, _, _, _, _⟩) rfl (fun K hK => ?_) AllReadyH.nil
      rw [if_pos (by rfl)]
      refine Dk.wp_store30 _ _ rfl w2.heap.size rfl r' sv' wv' rfl _ HB6.out rfl HR6.out ?_
      intro w7 hr7 hf7
      have HB7 := Lib.hid hr7
      have HL7 := Lib.hid (HL6.out.frT HB6.out (by decide) (by decide) hf7 hgs)
      have HR7 := Lib.hid (HR6.out.frT HB6.out (by decide) hf7)
      have hb7 : Below w.heap.size w w7 := hb1.trans (HL7.out.bel.mono hb1.size)
      refine hK.out _ _ (HGX.out _ hb7) (fun hHeld4 => ?_)
      clear hK K hr7
      try simp only [Act.put]
      try simp only [List.setIfInBounds_toArray]
      try simp only [List.set_cons_succ]
      try simp only [List.set_cons_zero]
      refine wpAnyH_take (i := 13) (oi := ⟨some 9, _, _, _, _, _⟩) (v := ?_) rfl (by kernel_rfl) (by kernel_rfl) (by kernel_rfl) (fun _ _ _ h => h) (Or.inl ⟨by rfl, ?_⟩) (by assumption) ?_
      rotate_left
      · (intro w hSw; (try dsimp only at hSw); go_simp <;> with_reducible rfl)
      try simp only [Act.put]
      try simp only [List.setIfInBounds_toArray]
      try simp only [List.set_cons_succ]
      try simp only [List.set_cons_zero]
      refine wpAnyH_done (by kernel_rfl) ?_ _
      refine NoPanic.normal ?_
      have k0 := HB7.out.c0
      have k1 := HB7.out.c1
      have k2 := HB7.out.c2
      have k3 := HB7.out.c3
      have k4 := HB7.out.c4
      have k5 := HB7.out.c5
      go_wp2_with (first
        | (go_at_call 10; refine (tells_any w1 _ p' s' r' sv' wv' HL7.out HR7.out HS6.out (by rw [HC6.out.2]; exact HN.out)).mono ?_; rintro e w8 ⟨rfl, hb8⟩; have HL8 := Lib.hid (HL7.out.below hb8).1; have HR8 := Lib.hid (HR7.out.below hb8); have HB8 := Lib.hid (HB7.out.below hb8); have m0 := HB8.out.c0; have m1 := HB8.out.c1; have m2 := HB8.out.c2; have m3 := HB8.out.c3; have m4 := HB8.out.c4; have m5 := HB8.out.c5)
        | (go_at_call 12; refine (reads_any w1 _ p' s' r' sv' wv' _ HL8.out HR8.out HS6.out).mono ?_; rintro e w9 ⟨rfl, hb9⟩; have HL9 := Lib.hid (HL8.out.below hb9).1; have HR9 := Lib.hid (HR8.out.below hb9); have HB9 := Lib.hid (HB8.out.below hb9)))
      go_roundw
      case rel => exact ⟨j + 1, p', s', r', sv', wv', by omega, by go_num, rfl, HL9, HR9, HB9, HS6, HC6⟩
      case measure => simp [intOf]; omega
    · go_wp2
      go_ret
      exact ⟨rfl, hbj⟩

set_option maxRecDepth 100000 in
theorem diskPlays_lifted (os : Os) (started : os.Started) (H : Type) (enc : TypeId × Value → H) :
    ReturnsInHanded {} Try.checked os 3 .any (Rows.diskPlaysSpec.pre6 enc Try.prog Try.f3 Rows.diskPlaysRow.domain false) (Rows.diskPlaysSpec.post enc Try.prog Try.f3 false true false false) := by
  refine returnsInHanded_of_change_sized (C := Try.checked) own started (by kernel_rfl) Try.func3
    (ChangeSpec.witness6 (enc := enc) (C := Try.checked) false ⟨#[], #[.int .i64 0, .slice none 0 0], []⟩ 8 (by kernel_rfl) (by kernel_rfl) (by kernel_rfl) (by kernel_rfl)) ?_
  intro W base args ds gs before hval0 hW hcnd hsz0 _
  have hval : ∀ (j : Nat) t v, Try.f3.params[j]? = some t → args[j]? = some v → Value.okWide Try.prog W .any base t v := hval0
  have hW' := hW
  obtain ⟨p, q, hA0, hV, rfl, hfz, hnd⟩ := hW
  have hA : DataW.TrodAll enc Try.prog W 0 (fun _ => true) true Try.f3.params.toList args.toList ds p := hA0
  have hsz : (DataW.weightsEach Try.prog (Try.f3.params.toList ++ []) (ds ++ gs)).all (· ≤ reachBytes) = true := hsz0
  rw [Try.params3] at hA hval hsz
  obtain ⟨v0, vs0, d0, ds0, p0, q0, hargs, rfl, rfl, h0, r0⟩ := trodAll_cons hA
  obtain ⟨v1, vs1, d1, ds1, p1, q1, rfl, rfl, rfl, h1, r1⟩ := trodAll_cons r0
  obtain ⟨rfl, rfl, rfl⟩ := trodAll_nil r1
  obtain rfl : args = #[v0, v1] := by cases args; simp_all
  obtain ⟨rfl, rfl⟩ := trodVars_none hV
  obtain ⟨a0, rfl, rfl, rfl, w0⟩ := open_int Try.underlying3 (hval 0 3 v0 rfl rfl) h0
  obtain ⟨a1, len1, cap1, rfl⟩ := okWide_slice Try.underlying22 (hval 1 22 v1 rfl rfl)
  have k1 := h1
  have lt1 : ∀ x ∈ p1, x.block < W.heap.size := by obtain ⟨m, hm⟩ := k1; exact DataW.trod_lt m _ _ _ hm
  obtain ⟨fuel1, hf1⟩ := h1
  obtain ⟨A1, l1, c1, hcs1, b1⟩ := Dk.trod_acts hf1
  simp only [Value.cells, List.cons.injEq, and_true, Value.slice.injEq] at hcs1
  obtain ⟨rfl, rfl, rfl⟩ := hcs1
  have hsz1 : ∀ k ∈ d1.weights Try.prog 22, k ≤ reachBytes := fun k hk => by
    have := List.all_eq_true.1 hsz _ (DataW.weights_mem_each (j := 1) (t := 22) (d := d1) rfl rfl k hk)
    simpa using this
  have hr1 := Dk.reach_acts (y := (d1, p1)) (by simpa [Value.cells] using hf1) hsz1 b1.1
  clear hA0 hval0 hsz0 hsz
  refine (plays_walk W a0 w0 _ l1 _ ⟨b1, hr1⟩).mono fun e W' ⟨he, bel⟩ => ?_
  subst he
  exact ⟨_, rfl, _, _, _, [], _, [], hW', trodAll_mk1 (shut_bool Try.underlying4 _), (trodAll_cons_mk (shut_int Try.underlying3 w0) (trodAll_cons_mk (Below.trod laidOut (by kernel_rfl) (of_decide_eq_true (by kernel_rfl)) k1 bel lt1) (trodAll_mk0))), rfl, bel.frame _, fun h => by cases h⟩

/-- The statement DiskPlays. -/
theorem diskPlays_holds : Rows.DiskPlaysSaid :=
  OpenClaim.holds_of_wide 3 Try.f3 rfl rfl rfl rfl rfl rfl rfl ⟨rfl, rfl, rfl, rfl, rfl⟩ rfl rfl rfl rfl rfl (by kernel_rfl) Try.func3 (by kernel_rfl)
    (of_decide_eq_true (by kernel_rfl)) (by unfold Func.isWrapper; first | (rw [if_pos (by decide +kernel)]; kernel_rfl) | (rw [if_neg (by decide +kernel)]; exact ⟨rfl, rfl⟩))
    (fun os started H enc _ => diskPlays_lifted os started H enc)
#print axioms diskPlays_holds

end Go.Proofs.Ytngpdjkeoodigaa
