/- WordPuts, for every input: numbers are laid as bytes, and read at a place, just as the document says; no conditions. -/
import Derived.Test.YtjnenicaheppeaaApp
import Derived.Deep.RegionHeld3
namespace Go.Proofs.Ytjnenicaheppeaa
open Go.ChangeShapes Go.WideShapes Go.ChangeAt Go.RowKit
set_option linter.unusedVariables false

set_option maxRecDepth 100000 in
set_option maxHeartbeats 2000000 in
theorem puts_core (w : World) (A : Option Addr) (l : List UInt8) (c : Nat) (hB : Wd.Bts w w.heap.size A l) (hl : l.length ≤ 20000) (hn : A = none → c = 0) (n : Nat) (hnn : n < 18446744073709551616) (a s : Int) (L : List UInt8) (hL : l ++ Wd.putL n (Wd.clamp s) = L) (gm ge : Int)
    (h13 : ∀ A' c' W, Wd.Bts W W.heap.size A' l → Calls Try.prog 13 #[.slice A' l.length c', .int .i64 a, .int .i64 s] W fun e w' => e = .returned (.tuple #[.int .u64 gm, .int .i64 ge]) ∧ W = w')
    (h14 : ∀ W, Calls Try.prog 14 #[.string ⟨l.toArray⟩, .int .i64 a, .int .i64 s] W fun e w' => e = .returned (.tuple #[.int .u64 gm, .int .i64 ge]) ∧ W = w') :
    Calls Try.prog 3 #[.slice A l.length c, .int .u64 (n : Int), .int .i64 a, .int .i64 s] w fun e w' => e = .returned (.bool true) ∧ Below w.heap.size w w' := by
  have hLl : L.length = l.length + Wd.clamp s := by rw [← hL, List.length_append, Wd.length_putL]
  have hk := Wd.clamp_le s
  have hLb : L.length ≤ 20008 := by omega
  have h12 : ∀ A' c' W, Wd.Bts W W.heap.size A' l → Calls Try.prog 12 #[.slice A' l.length c', .int .u64 (n : Int), .int .i64 s] W fun e w' => e = .returned (.slice (some ⟨W.heap.size, 0, none⟩) L.length L.length) ∧ Hid (Wd.Row w' W.heap.size L) ∧ Below W.heap.size W w' := fun A' c' W hW => by
    have := put_any A' l c' _ n s W hW (Nat.le_refl _) (by omega) hnn
    rwa [← hLl, hL] at this
  have h15 : ∀ W, Calls Try.prog 15 #[.string ⟨l.toArray⟩, .int .u64 (n : Int), .int .i64 s] W fun e w' => e = .returned (.string ⟨L.toArray⟩) ∧ Below W.heap.size W w' := fun W => by
    have := rput_all l n s W (by omega) hnn
    rwa [hL] at this
  have hcv : ∀ W, Below w.heap.size w W → (convert 22 9 (.slice A l.length c)).run Try.prog W = .ok (.string ⟨l.toArray⟩) W := fun W hW => Wd.conv (hB.below hW) c
  have H12 := Lib.hid h12
  have H13 := Lib.hid h13
  have H14 := Lib.hid h14
  have H15 := Lib.hid h15
  have CV := Lib.hid hcv
  have H := Lib.hid hB
  have HN := Lib.hid hn
  clear h12 h13 h14 h15 hcv hB hn hL hLl hk
  go_enter Try.func3, Try.ntmps3
  go_wp2_with (first
    | (go_at_call 10; refine (awake_any _).mono ?_; rintro e w1 ⟨rfl, hb1⟩)
    | (go_at_call 11; refine (long_no _ _ _ _ hl).mono ?_; rintro e w' ⟨rfl, rfl⟩)
    | (at_builtin; have hb1a := hb1.alloc hb1.size (.cells #[] 5); refine Wd.wpList_append8 rfl (.tmp 21) (.tmp 22) rfl w.heap.size w.heap.size _ [] l l rfl (Wd.OwnV.empty w1 _ hb1.size) A c rfl HN.out (H.out.below hb1a) rfl (by omega) hb1a.size ?_; intro A2 c2 w2 HO hb2))
  have hbw2 := hb1a.trans hb2
  have HM := Lib.hid HO.out.bts
  refine (H12.out A2 c2 w2 HM.out).mono ?_
  rintro e w3 ⟨rfl, HR3, hb3⟩
  have hbw3 : Below w.heap.size w w3 := hbw2.trans (hb3.mono hbw2.size)
  clear hb2 HO hb1a
  go_wp2_with fail
  refine (H13.out A2 c2 w3 ((HM.out.below hb3).more hb3.size)).mono ?_
  rintro e w' ⟨rfl, rfl⟩
  have c0 := CV.out w3 hbw3
  go_wp2_with fail
  refine (H14.out w3).mono ?_
  rintro e w' ⟨rfl, rfl⟩
  go_wp2_with fail
  have c1 := CV.out w3.drew hbw3.drew
  have k1 : (convert 22 9 (.slice (some ⟨w2.heap.size, 0, none⟩) L.length L.length)).run Try.prog w3.drew = .ok (.string ⟨L.toArray⟩) w3.drew := Wd.conv (w := w3.drew) (HR3.out.bts HR3.out.lt) L.length
  clear c0
  refine wp_region_noPanic ?_
  refine wp_region_held_drew (S := fun W => (convert 22 9 (.slice A l.length c)).run Try.prog W = .ok (.string ⟨l.toArray⟩) W ∧ (convert 22 9 (.slice (some ⟨w2.heap.size, 0, none⟩) L.length L.length)).run Try.prog W = .ok (.string ⟨L.toArray⟩) W) (by kernel_rfl) ⟨c1, k1⟩ (fun hHeld => ?_)
  refine wpAnyH_take (i := 0) (oi := ⟨some 43, _, _, _, _, _⟩) (v := ?_) rfl (by kernel_rfl) (by kernel_rfl) (by kernel_rfl) (fun _ _ _ h => h) (Or.inl ⟨by rfl, ?_⟩) (by assumption) ?_
  rotate_left
  · (intro w hSw; (try dsimp only at hSw); obtain ⟨hS1, hS2⟩ := hSw; go_simp <;> with_reducible rfl)
  try simp only [Act.put]
  try simp only [List.setIfInBounds_toArray]
  try simp only [List.set_cons_succ]
  try simp only [List.set_cons_zero]
  refine wpAnyH_take (i := 1) (oi := ⟨some 44, _, _, _, _, _⟩) (v := ?_) rfl (by kernel_rfl) (by kernel_rfl) (by kernel_rfl) (fun _ _ _ h => h) (Or.inl ⟨by rfl, ?_⟩) (by assumption) ?_
  rotate_left
  · (intro w hSw; (try dsimp only at hSw); obtain ⟨hS1, hS2⟩ := hSw; go_simp <;> with_reducible rfl)
  try simp only [Act.put]
  try simp only [List.setIfInBounds_toArray]
  try simp only [List.set_cons_succ]
  try simp only [List.set_cons_zero]
  refine wpAnyH_take (i := 2) (oi := ⟨some 45, _, _, _, _, _⟩) (v := ?_) rfl (by kernel_rfl) (by kernel_rfl) (by kernel_rfl) (fun _ _ _ h => h) (Or.inl ⟨by rfl, ?_⟩) (by assumption) ?_
  rotate_left
  · (intro w hSw; (try dsimp only at hSw); obtain ⟨hS1, hS2⟩ := hSw; go_simp <;> with_reducible rfl)
  try simp only [Act.put]
  try simp only [List.setIfInBounds_toArray]
  try simp only [List.set_cons_succ]
  try simp only [List.set_cons_zero]
  refine wpAnyH_take (i := 3) (oi := ⟨some 46, _, _, _, _, _⟩) (v := ?_) rfl (by kernel_rfl) (by kernel_rfl) (by kernel_rfl) (fun _ _ _ h => h) (Or.inl ⟨by rfl, ?_⟩) (by assumption) ?_
  rotate_left
  · (intro w hSw; (try dsimp only at hSw); obtain ⟨hS1, hS2⟩ := hSw; go_simp <;> with_reducible rfl)
  try simp only [Act.put]
  try simp only [List.setIfInBounds_toArray]
  try simp only [List.set_cons_succ]
  try simp only [List.set_cons_zero]
  refine wpAnyH_take (i := 4) (oi := ⟨some 47, _, _, _, _, _⟩) (v := ?_) rfl (by kernel_rfl) (by kernel_rfl) (by kernel_rfl) (fun _ _ _ h => h) (Or.inl ⟨by rfl, ?_⟩) (by assumption) ?_
  rotate_left
  · (intro w hSw; (try dsimp only at hSw); obtain ⟨hS1, hS2⟩ := hSw; go_simp <;> with_reducible rfl)
  try simp only [Act.put]
  try simp only [List.setIfInBounds_toArray]
  try simp only [List.set_cons_succ]
  try simp only [List.set_cons_zero]
  refine wpAnyH_take (i := 5) (oi := ⟨some 48, _, _, _, _, _⟩) (v := ?_) rfl (by kernel_rfl) (by kernel_rfl) (by kernel_rfl) (fun _ _ _ h => h) (Or.inl ⟨by rfl, ?_⟩) (by assumption) ?_
  rotate_left
  · (intro w hSw; (try dsimp only at hSw); obtain ⟨hS1, hS2⟩ := hSw; go_simp <;> with_reducible rfl)
  try simp only [Act.put]
  try simp only [List.setIfInBounds_toArray]
  try simp only [List.set_cons_succ]
  try simp only [List.set_cons_zero]
  refine wpAnyH_ready (rs := [6]) (by kernel_rfl) (by simp) ?_
  refine AllReadyH.cons (o := ⟨some 49, _, _, _, _, _⟩) rfl (fun K hK => ?_) AllReadyH.nil
  go_simp
  go_at_call 15
  refine (H15.out _).mono ?_
  rintro e w4 ⟨rfl, hb4⟩
  have hb34 : Below w3.heap.size w3 w4 := (Below.refl _ w3).drew.trans hb4
  have hbw4 : Below w.heap.size w w4 := hbw3.trans (hb34.mono hbw3.size)
  have c4 := CV.out w4 hbw4
  have HR4 : Hid (Wd.Row w4 w2.heap.size L) := HR3.out.below hb34 HR3.out.lt
  have k4 : (convert 22 9 (.slice (some ⟨w2.heap.size, 0, none⟩) L.length L.length)).run Try.prog w4 = .ok (.string ⟨L.toArray⟩) w4 := Wd.conv (HR4.out.bts HR4.out.lt) L.length
  clear hHeld c1 k1
  go_wp2_with fail
  refine hK.out _ _ ?_ (fun hHeld2 => ?_)
  · exact ⟨c4, k4⟩
  clear hK K
  try simp only [Act.put]
  try simp only [List.setIfInBounds_toArray]
  try simp only [List.set_cons_succ]
  try simp only [List.set_cons_zero]
  refine wpAnyH_take (i := 7) (oi := ⟨some 50, _, _, _, _, _⟩) (v := ?_) rfl (by kernel_rfl) (by kernel_rfl) (by kernel_rfl) (fun _ _ _ h => h) (Or.inl ⟨by rfl, ?_⟩) (by assumption) ?_
  rotate_left
  · (intro w hSw; (try dsimp only at hSw); obtain ⟨hS1, hS2⟩ := hSw; go_simp <;> with_reducible rfl)
  try simp only [Act.put]
  try simp only [List.setIfInBounds_toArray]
  try simp only [List.set_cons_succ]
  try simp only [List.set_cons_zero]
  refine wpAnyH_take (i := 8) (oi := ⟨some 51, _, _, _, _, _⟩) (v := ?_) rfl (by kernel_rfl) (by kernel_rfl) (by kernel_rfl) (fun _ _ _ h => h) (Or.inl ⟨by rfl, ?_⟩) (by assumption) ?_
  rotate_left
  · (intro w hSw; (try dsimp only at hSw); obtain ⟨hS1, hS2⟩ := hSw; go_simp <;> with_reducible rfl)
  try simp only [Act.put]
  try simp only [List.setIfInBounds_toArray]
  try simp only [List.set_cons_succ]
  try simp only [List.set_cons_zero]
  refine wpAnyH_take (i := 9) (oi := ⟨some 52, _, _, _, _, _⟩) (v := ?_) rfl (by kernel_rfl) (by kernel_rfl) (by kernel_rfl) (fun _ _ _ h => h) (Or.inl ⟨by rfl, ?_⟩) (by assumption) ?_
  rotate_left
  · (intro w hSw; (try dsimp only at hSw); obtain ⟨hS1, hS2⟩ := hSw; go_simp <;> with_reducible rfl)
  try simp only [Act.put]
  try simp only [List.setIfInBounds_toArray]
  try simp only [List.set_cons_succ]
  try simp only [List.set_cons_zero]
  refine wpAnyH_take (i := 10) (oi := ⟨some 53, _, _, _, _, _⟩) (v := ?_) rfl (by kernel_rfl) (by kernel_rfl) (by kernel_rfl) (fun _ _ _ h => h) (Or.inl ⟨by rfl, ?_⟩) (by assumption) ?_
  rotate_left
  · (intro w hSw; (try dsimp only at hSw); obtain ⟨hS1, hS2⟩ := hSw; go_simp <;> with_reducible rfl)
  try simp only [Act.put]
  try simp only [List.setIfInBounds_toArray]
  try simp only [List.set_cons_succ]
  try simp only [List.set_cons_zero]
  refine wpAnyH_take (i := 11) (oi := ⟨some 54, _, _, _, _, _⟩) (v := ?_) rfl (by kernel_rfl) (by kernel_rfl) (by kernel_rfl) (fun _ _ _ h => h) (Or.inl ⟨by rfl, ?_⟩) (by assumption) ?_
  rotate_left
  · (intro w hSw; (try dsimp only at hSw); obtain ⟨hS1, hS2⟩ := hSw; go_simp <;> with_reducible rfl)
  try simp only [Act.put]
  try simp only [List.setIfInBounds_toArray]
  try simp only [List.set_cons_succ]
  try simp only [List.set_cons_zero]
  refine wpAnyH_take (i := 12) (oi := ⟨some 55, _, _, _, _, _⟩) (v := ?_) rfl (by kernel_rfl) (by kernel_rfl) (by kernel_rfl) (fun _ _ _ h => h) (Or.inl ⟨by rfl, ?_⟩) (by assumption) ?_
  rotate_left
  · (intro w hSw; (try dsimp only at hSw); obtain ⟨hS1, hS2⟩ := hSw; go_simp <;> with_reducible rfl)
  try simp only [Act.put]
  try simp only [List.setIfInBounds_toArray]
  try simp only [List.set_cons_succ]
  try simp only [List.set_cons_zero]
  refine wpAnyH_take (i := 13) (oi := ⟨some 56, _, _, _, _, _⟩) (v := ?_) rfl (by kernel_rfl) (by kernel_rfl) (by kernel_rfl) (fun _ _ _ h => h) (Or.inl ⟨by rfl, ?_⟩) (by assumption) ?_
  rotate_left
  · (intro w hSw; (try dsimp only at hSw); obtain ⟨hS1, hS2⟩ := hSw; go_simp <;> with_reducible rfl)
  try simp only [Act.put]
  try simp only [List.setIfInBounds_toArray]
  try simp only [List.set_cons_succ]
  try simp only [List.set_cons_zero]
  refine wpAnyH_take (i := 14) (oi := ⟨some 57, _, _, _, _, _⟩) (v := ?_) rfl (by kernel_rfl) (by kernel_rfl) (by kernel_rfl) (fun _ _ _ h => h) (Or.inl ⟨by rfl, ?_⟩) (by assumption) ?_
  rotate_left
  · (intro w hSw; (try dsimp only at hSw); obtain ⟨hS1, hS2⟩ := hSw; go_simp <;> with_reducible rfl)
  try simp only [Act.put]
  try simp only [List.setIfInBounds_toArray]
  try simp only [List.set_cons_succ]
  try simp only [List.set_cons_zero]
  refine wpAnyH_take (i := 15) (oi := ⟨some 58, _, _, _, _, _⟩) (v := ?_) rfl (by kernel_rfl) (by kernel_rfl) (by kernel_rfl) (fun _ _ _ h => h) (Or.inl ⟨by rfl, ?_⟩) (by assumption) ?_
  rotate_left
  · (intro w hSw; (try dsimp only at hSw); obtain ⟨hS1, hS2⟩ := hSw; go_simp <;> with_reducible rfl)
  try simp only [Act.put]
  try simp only [List.setIfInBounds_toArray]
  try simp only [List.set_cons_succ]
  try simp only [List.set_cons_zero]
  refine wpAnyH_take (i := 16) (oi := ⟨some 59, _, _, _, _, _⟩) (v := ?_) rfl (by kernel_rfl) (by kernel_rfl) (by kernel_rfl) (fun _ _ _ h => h) (Or.inl ⟨by rfl, ?_⟩) (by assumption) ?_
  rotate_left
  · (intro w hSw; (try dsimp only at hSw); obtain ⟨hS1, hS2⟩ := hSw; go_simp <;> with_reducible rfl)
  try simp only [Act.put]
  try simp only [List.setIfInBounds_toArray]
  try simp only [List.set_cons_succ]
  try simp only [List.set_cons_zero]
  refine wpAnyH_take (i := 17) (oi := ⟨some 60, _, _, _, _, _⟩) (v := ?_) rfl (by kernel_rfl) (by kernel_rfl) (by kernel_rfl) (fun _ _ _ h => h) (Or.inl ⟨by rfl, ?_⟩) (by assumption) ?_
  rotate_left
  · (intro w hSw; (try dsimp only at hSw); obtain ⟨hS1, hS2⟩ := hSw; go_simp <;> with_reducible rfl)
  try simp only [Act.put]
  try simp only [List.setIfInBounds_toArray]
  try simp only [List.set_cons_succ]
  try simp only [List.set_cons_zero]
  refine wpAnyH_take (i := 18) (oi := ⟨some 15, _, _, _, _, _⟩) (v := ?_) rfl (by kernel_rfl) (by kernel_rfl) (by kernel_rfl) (fun _ _ _ h => h) (Or.inl ⟨by rfl, ?_⟩) (by assumption) ?_
  rotate_left
  · (intro w hSw; (try dsimp only at hSw); obtain ⟨hS1, hS2⟩ := hSw; go_simp <;> with_reducible rfl)
  try simp only [Act.put]
  try simp only [List.setIfInBounds_toArray]
  try simp only [List.set_cons_succ]
  try simp only [List.set_cons_zero]
  refine wpAnyH_done (by kernel_rfl) ?_ _
  refine NoPanic.normal ?_
  clear c4 k4 hHeld2
  go_wp2
  go_loopw [16] (fun i wr => ∃ j : Nat, j ≤ L.length ∧ i = .int .i64 j ∧ (∃ L' : List UInt8, Hid (L'.length = L.length) ∧ Hid (Wd.Row wr w2.heap.size L')) ∧ Below w2.heap.size w4 wr) (fun i _ => L.length - (intOf i).toNat)
  case atStart => exact ⟨0, by omega, rfl, ⟨L, show _ = _ from rfl, HR4⟩, Below.refl _ _⟩
  case round =>
    obtain ⟨j, hj, rfl, ⟨L', HL', HRj⟩, hbj⟩ := hrel
    by_cases hlt : j < L.length
    · have hc := HRj.out.cell j (by rw [HL'.out]; exact hlt)
      have hf := HRj.out.free j
      have HN2 : Hid (Wd.Row (wr.setCell ⟨w2.heap.size, j, none⟩ (.int .u8 7)) w2.heap.size (L'.set j 7)) := HRj.out.set j 7
      have HL2 : Hid ((L'.set j 7).length = L.length) := show _ = _ by rw [List.length_set, HL'.out]
      have hbn := hbj.setCell (p := ⟨w2.heap.size, j, none⟩) (Nat.le_refl _) (.int .u8 7)
      go_wp2
      go_roundw
      case rel => exact ⟨j + 1, by omega, by go_num, ⟨L'.set j 7, HL2, HN2⟩, hbn⟩
      case measure => simp [intOf]; omega
    · have hb24 : Below w2.heap.size w2 wr := (hb3.trans (hb34.mono hb3.size)).trans hbj
      have hbwr : Below w.heap.size w wr := hbw2.trans (hb24.mono hbw2.size)
      have c5 := CV.out wr hbwr
      have c6 := Wd.conv (HM.out.below hb24) c2
      clear HRj HL'
      go_wp2
      go_ret
      exact ⟨rfl, hbwr⟩
theorem puts_walk (w : World) (A : Option Addr) (l : List UInt8) (c : Nat) (hB : Wd.Bts w w.heap.size A l) (hl : l.length ≤ maxLen) (hc : A = none → c = 0) (_hlc : l.length ≤ c) (m : Int) (wm : (Lit.int .u64 m).wf = true) (a : Int) (wa : (Lit.int .i64 a).wf = true) (s : Int) (ws : (Lit.int .i64 s).wf = true) :
    Calls Try.prog 3 #[.slice A l.length c, .int .u64 m, .int .i64 a, .int .i64 s] w fun e w' => e = .returned (.bool true) ∧ Below w.heap.size w w' := by
  obtain ⟨m0, m1⟩ := bounds_u64 wm
  obtain ⟨a0, a1⟩ := bounds_i64 wa
  obtain ⟨s0, s1⟩ := bounds_i64 ws
  obtain ⟨n, rfl⟩ := Int.eq_ofNat_of_zero_le m0
  have hn : n < 18446744073709551616 := by omega
  unfold maxLen at hl
  clear wm wa ws
  by_cases h1 : l.length ≤ 20000
  · by_cases h2 : s < 1 ∨ 8 < s ∨ a < 0
    · exact puts_core w A l c hB h1 hc n hn a s _ rfl 0 1 (fun A' c' W _ => get_range A' l c' a s W h2) (fun W => rget_range l a s W h2)
    · obtain ⟨k, rfl⟩ := Int.eq_ofNat_of_zero_le (show 0 ≤ s by omega)
      by_cases h3 : (l.length : Int) - k < a
      · exact puts_core w A l c hB h1 hc n hn a k _ rfl 0 5 (fun A' c' W _ => get_short A' l c' a k W (by omega) (by omega) (by omega) h3 (by omega)) (fun W => rget_short l a k W (by omega) (by omega) (by omega) h3 (by omega) (by omega))
      · obtain ⟨b, rfl⟩ := Int.eq_ofNat_of_zero_le (show 0 ≤ a by omega)
        exact puts_core w A l c hB h1 hc n hn b k _ rfl _ 0 (fun A' c' W hW => get_ok A' l c' _ b k W hW (by omega) (by omega) (by omega) (by omega)) (fun W => rget_ok l b k W (by omega) (by omega) (by omega) (by omega))
  · clear hB hc
    go_enter Try.func3, Try.ntmps3
    go_wp2_with (first
      | (go_at_call 10; refine (awake_any _).mono ?_; rintro e w1 ⟨rfl, hb1⟩)
      | (go_at_call 11; refine (long_yes _ _ _ _ hl (by omega)).mono ?_; rintro e w' ⟨rfl, rfl⟩))
    go_ret
    exact ⟨rfl, hb1⟩

set_option maxRecDepth 100000 in
theorem wordPuts_lifted (os : Os) (started : os.Started) (H : Type) (enc : TypeId × Value → H) :
    ReturnsInHanded {} Try.checked os 3 .any (Rows.wordPutsSpec.pre6 enc Try.prog Try.f3 Rows.wordPutsRow.domain false) (Rows.wordPutsSpec.post enc Try.prog Try.f3 false true false false) := by
  refine returnsInHanded_of_change (C := Try.checked) own started (by kernel_rfl) Try.func3
    (ChangeSpec.witness6 (enc := enc) (C := Try.checked) false ⟨#[], #[.slice none 0 0, .int .u64 0, .int .i64 0, .int .i64 0], []⟩ 8 (by kernel_rfl) (by kernel_rfl) (by kernel_rfl) (by kernel_rfl)) ?_
  intro W base args ds gs before hval0 hW hcnd _
  have hval : ∀ (j : Nat) t v, Try.f3.params[j]? = some t → args[j]? = some v → Value.okWide Try.prog W .any base t v := hval0
  have hW' := hW
  obtain ⟨p, q, hA0, hV, rfl, hfz, hnd⟩ := hW
  have hA : DataW.TrodAll enc Try.prog W 0 (fun _ => true) true Try.f3.params.toList args.toList ds p := hA0
  rw [Try.params3] at hA hval
  obtain ⟨v0, vs0, d0, ds0, p0, q0, hargs, rfl, rfl, h0, r0⟩ := trodAll_cons hA
  obtain ⟨v1, vs1, d1, ds1, p1, q1, rfl, rfl, rfl, h1, r1⟩ := trodAll_cons r0
  obtain ⟨v2, vs2, d2, ds2, p2, q2, rfl, rfl, rfl, h2, r2⟩ := trodAll_cons r1
  obtain ⟨v3, vs3, d3, ds3, p3, q3, rfl, rfl, rfl, h3, r3⟩ := trodAll_cons r2
  obtain ⟨rfl, rfl, rfl⟩ := trodAll_nil r3
  obtain rfl : args = #[v0, v1, v2, v3] := by cases args; simp_all
  obtain ⟨rfl, rfl⟩ := trodVars_none hV
  obtain ⟨a0, len0, cap0, rfl⟩ := okWide_slice Try.underlying22 (hval 0 22 v0 rfl rfl)
  have k0 := h0
  have lt0 : ∀ x ∈ p0, x.block < W.heap.size := by obtain ⟨m, hm⟩ := k0; exact DataW.trod_lt m _ _ _ hm
  obtain ⟨l0, rfl, b0, m0, n0, t0⟩ := Wd.open_bytes h0
  obtain ⟨a1, rfl, rfl, rfl, w1⟩ := open_int Try.underlying23 (hval 1 23 v1 rfl rfl) h1
  obtain ⟨a2, rfl, rfl, rfl, w2⟩ := open_int Try.underlying3 (hval 2 3 v2 rfl rfl) h2
  obtain ⟨a3, rfl, rfl, rfl, w3⟩ := open_int Try.underlying3 (hval 3 3 v3 rfl rfl) h3
  clear hA0 hval0
  refine (puts_walk W a0 l0 cap0 b0 m0 n0 t0 a1 w1 a2 w2 a3 w3).mono fun e W' ⟨he, bel⟩ => ?_
  subst he
  exact ⟨_, rfl, _, _, _, [], _, [], hW', trodAll_mk1 (shut_bool Try.underlying4 _), (trodAll_cons_mk (Below.trod laidOut (by kernel_rfl) (of_decide_eq_true (by kernel_rfl)) k0 bel lt0) (trodAll_cons_mk (shut_int Try.underlying23 w1) (trodAll_cons_mk (shut_int Try.underlying3 w2) (trodAll_cons_mk (shut_int Try.underlying3 w3) (trodAll_mk0))))), rfl, bel.frame _, fun h => by cases h⟩

/-- The statement WordPuts. -/
theorem wordPuts_holds : Rows.WordPutsSaid :=
  OpenClaim.holds_of_wide 3 Try.f3 rfl rfl rfl rfl rfl rfl rfl ⟨rfl, rfl, rfl, rfl, rfl⟩ rfl rfl rfl rfl rfl (by kernel_rfl) Try.func3 (by kernel_rfl)
    (of_decide_eq_true (by kernel_rfl)) (by unfold Func.isWrapper; first | (rw [if_pos (by decide +kernel)]; kernel_rfl) | (rw [if_neg (by decide +kernel)]; exact ⟨rfl, rfl⟩))
    (fun os started H enc _ => wordPuts_lifted os started H enc)
#print axioms wordPuts_holds

end Go.Proofs.Ytjnenicaheppeaa
