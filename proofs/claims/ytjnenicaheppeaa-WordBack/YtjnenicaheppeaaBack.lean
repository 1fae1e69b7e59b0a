/- WordBack, for every input: what was laid is read as it was, whatever stands behind it; what was read is laid with just these bytes; no conditions. -/
import Derived.Test.YtjnenicaheppeaaApp
import Derived.Test.YtjnenicaheppeaaUnlike
import Derived.Deep.RegionWith
import Derived.Deep.RegionHeld3
namespace Go.Proofs.Ytjnenicaheppeaa
open Go.ChangeShapes Go.WideShapes Go.ChangeAt Go.RowKit
set_option linter.unusedVariables false

set_option maxRecDepth 100000 in
set_option maxHeartbeats 400000 in
theorem back_core (w : World) (n : Nat) (hn : n < 18446744073709551616) (A : Option Addr) (l : List UInt8) (c : Nat) (hB : Wd.Bts w w.heap.size A l) (hl : l.length ≤ 20000) (hc : A = none → c = 0) (hlc : l.length ≤ c) (X L : List UInt8) (hX : Wd.varL n = X) (hXl : X.length ≤ 10)
    (hL : X ++ l = L) (hr : Wd.rd 0 0 L = (n, X.length, 0)) (v s : Nat) (hr2 : Wd.rd 0 0 l = (v, s, 0)) (hs1 : 1 ≤ s) (hs2 : s ≤ l.length) (Y : List UInt8) (hY : Wd.varL v = Y) (hv : v < 18446744073709551616) (hY2 : l.take s = Y) :
    Calls Try.prog 7 #[.int .u64 (n : Int), .slice A l.length c] w fun e w' => e = .returned (.bool true) ∧ Below w.heap.size w w' := by
  have H := Lib.hid hB
  have HN := Lib.hid hc
  have h1 := fun w => var_nil n w hn
  rw [hX] at h1
  have H1 := Lib.hid h1
  have h2 := fun w => var_nil v w hv
  rw [hY] at h2
  have H2 := Lib.hid h2
  have HL := Lib.hid hL
  have hLl : L.length ≤ 20010 := by rw [← hL, List.length_append]; omega
  have HR := Lib.hid hr
  have HR2 := Lib.hid hr2
  have HY := Lib.hid hY2
  clear hB hc h1 hX hL hr hr2 h2 hY hY2
  go_enter Try.func7, Try.ntmps7
  go_wp2_with (first
    | (go_at_call 10; refine (awake_any _).mono ?_; rintro e w1 ⟨rfl, hb1⟩)
    | (go_at_call 11; refine (long_no _ _ _ _ hl).mono ?_; rintro e w' ⟨rfl, rfl⟩))
  refine (H1.out w1).mono ?_
  rintro e w2 ⟨rfl, HR2', hb2⟩
  have hbw2 : Below w.heap.size w w2 := hb1.trans (hb2.mono hb1.size)
  have hb2a := hbw2.alloc hbw2.size (.cells #[] 5)
  have hcap : (some ⟨w1.heap.size, 0, none⟩ : Option Addr) = none → X.length = 0 := fun h => by cases h
  have HC := Lib.hid hcap
  have hXb : Wd.Bts (w2.alloc (.cells #[] 5)) w2.heap.size (some ⟨w1.heap.size, 0, none⟩) X := (HR2'.out.bts HR2'.out.lt).below ((Below.refl _ _).alloc (Nat.le_refl _) _)
  have HX := Lib.hid hXb
  clear hcap hXb
  have tok : True := trivial
  go_wp2_with (first
    | (at_builtin; have _t := tok; refine Wd.wpList_append8 rfl (.tmp 17) (.tmp 18) rfl w.heap.size w2.heap.size _ [] X X rfl (Wd.OwnV.empty w2 _ hbw2.size) _ _ rfl HC.out HX.out rfl (by omega) hb2a.size ?_; intro A3 c3 w3 HO3 hb3; clear tok; have hbw3 := hb2a.trans hb3)
    | (at_builtin; refine Wd.wpList_append8 rfl (.tmp 19) (.tmp 20) rfl w.heap.size w.heap.size _ X l L rfl HO3.out A c rfl HN.out (H.out.below hbw3) HL.out (by omega) hbw3.size ?_; intro A4 c4 w4 HO4 hb4; have hbw4 := hbw3.trans hb4))
  refine (read_any A4 L c4 _ n X.length 0 w4 HO4.out.bts (by omega) HR.out).mono ?_
  rintro e w' ⟨rfl, rfl⟩
  clear HO4 HO3 hb4 hb3 HX HC HR2'
  go_wp2_with fail
  refine (read_any A l c _ v s 0 w4 (H.out.below hbw4) (by omega) HR2.out).mono ?_
  rintro e w' ⟨rfl, rfl⟩
  obtain ⟨b, off, rfl, hbB, _⟩ := H.out (by omega)
  have hsc : s ≤ c := by omega
  have hs1' : (1 : Int) ≤ s := by omega
  have c0 : ∀ W, Below w.heap.size w W → (convert 22 9 (.slice (some ⟨b, off, none⟩) s c)).run Try.prog W = .ok (.string ⟨Y.toArray⟩) W := fun W hW => by
    have := Wd.conv (w := W) ((H.out.below hW).take s) c
    rwa [List.length_take, Nat.min_eq_left hs2, HY.out] at this
  have C0 := Lib.hid c0
  have c1 := c0 w4.drew hbw4.drew
  clear c0
  go_wp2_with fail
  refine wp_region_noPanic ?_
  refine wp_region_held_drew (S := fun W => (convert 22 9 (.slice (some ⟨b, off, none⟩) s c)).run Try.prog W = .ok (.string ⟨Y.toArray⟩) W) (by kernel_rfl) c1 (fun hHeld => ?_)
  refine wpAnyH_take (i := 0) (oi := ⟨some 55, _, _, _, _, _⟩) (v := ?_) rfl (by kernel_rfl) (by kernel_rfl) (by kernel_rfl) (fun _ _ _ h => h) (Or.inl ⟨by rfl, ?_⟩) (by assumption) ?_
  rotate_left
  · (intro w hSw; (try dsimp only at hSw); go_simp <;> with_reducible rfl)
  try simp only [Act.put]
  try simp only [List.setIfInBounds_toArray]
  try simp only [List.set_cons_succ]
  try simp only [List.set_cons_zero]
  refine wpAnyH_take (i := 1) (oi := ⟨some 56, _, _, _, _, _⟩) (v := ?_) rfl (by kernel_rfl) (by kernel_rfl) (by kernel_rfl) (fun _ _ _ h => h) (Or.inl ⟨by rfl, ?_⟩) (by assumption) ?_
  rotate_left
  · (intro w hSw; (try dsimp only at hSw); go_simp <;> with_reducible rfl)
  try simp only [Act.put]
  try simp only [List.setIfInBounds_toArray]
  try simp only [List.set_cons_succ]
  try simp only [List.set_cons_zero]
  refine wpAnyH_take (i := 2) (oi := ⟨some 57, _, _, _, _, _⟩) (v := ?_) rfl (by kernel_rfl) (by kernel_rfl) (by kernel_rfl) (fun _ _ _ h => h) (Or.inl ⟨by rfl, ?_⟩) (by assumption) ?_
  rotate_left
  · (intro w hSw; (try dsimp only at hSw); go_simp <;> with_reducible rfl)
  try simp only [Act.put]
  try simp only [List.setIfInBounds_toArray]
  try simp only [List.set_cons_succ]
  try simp only [List.set_cons_zero]
  refine wpAnyH_take (i := 3) (oi := ⟨some 58, _, _, _, _, _⟩) (v := ?_) rfl (by kernel_rfl) (by kernel_rfl) (by kernel_rfl) (fun _ _ _ h => h) (Or.inl ⟨by rfl, ?_⟩) (by assumption) ?_
  rotate_left
  · (intro w hSw; (try dsimp only at hSw); go_simp <;> with_reducible rfl)
  try simp only [Act.put]
  try simp only [List.setIfInBounds_toArray]
  try simp only [List.set_cons_succ]
  try simp only [List.set_cons_zero]
  refine wpAnyH_take (i := 4) (oi := ⟨some 59, _, _, _, _, _⟩) (v := ?_) rfl (by kernel_rfl) (by kernel_rfl) (by kernel_rfl) (fun _ _ _ h => h) (Or.inl ⟨by rfl, ?_⟩) (by assumption) ?_
  rotate_left
  · (intro w hSw; (try dsimp only at hSw); go_simp <;> with_reducible rfl)
  try simp only [Act.put]
  try simp only [List.setIfInBounds_toArray]
  try simp only [List.set_cons_succ]
  try simp only [List.set_cons_zero]
  refine wpAnyH_take (i := 5) (oi := ⟨some 60, _, _, _, _, _⟩) (v := ?_) rfl (by kernel_rfl) (by kernel_rfl) (by kernel_rfl) (fun _ _ _ h => h) (Or.inl ⟨by rfl, ?_⟩) (by assumption) ?_
  rotate_left
  · (intro w hSw; (try dsimp only at hSw); go_simp <;> with_reducible rfl)
  try simp only [Act.put]
  try simp only [List.setIfInBounds_toArray]
  try simp only [List.set_cons_succ]
  try simp only [List.set_cons_zero]
  refine wpAnyH_take (i := 6) (oi := ⟨some 61, _, _, _, _, _⟩) (v := ?_) rfl (by kernel_rfl) (by kernel_rfl) (by kernel_rfl) (fun _ _ _ h => h) (Or.inl ⟨by rfl, ?_⟩) (by assumption) ?_
  rotate_left
  · (intro w hSw; (try dsimp only at hSw); go_simp <;> with_reducible rfl)
  try simp only [Act.put]
  try simp only [List.setIfInBounds_toArray]
  try simp only [List.set_cons_succ]
  try simp only [List.set_cons_zero]
  refine wpAnyH_take (i := 7) (oi := ⟨some 62, _, _, _, _, _⟩) (v := ?_) rfl (by kernel_rfl) (by kernel_rfl) (by kernel_rfl) (fun _ _ _ h => h) (Or.inl ⟨by rfl, ?_⟩) (by assumption) ?_
  rotate_left
  · (intro w hSw; (try dsimp only at hSw); go_simp <;> with_reducible rfl)
  try simp only [Act.put]
  try simp only [List.setIfInBounds_toArray]
  try simp only [List.set_cons_succ]
  try simp only [List.set_cons_zero]
  refine wpAnyH_take (i := 8) (oi := ⟨some 63, _, _, _, _, _⟩) (v := ?_) rfl (by kernel_rfl) (by kernel_rfl) (by kernel_rfl) (fun _ _ _ h => h) (Or.inl ⟨by rfl, ?_⟩) (by assumption) ?_
  rotate_left
  · (intro w hSw; (try dsimp only at hSw); go_simp <;> with_reducible rfl)
  try simp only [Act.put]
  try simp only [List.setIfInBounds_toArray]
  try simp only [List.set_cons_succ]
  try simp only [List.set_cons_zero]
  refine wpAnyH_take (i := 9) (oi := ⟨some 64, _, _, _, _, _⟩) (v := ?_) rfl (by kernel_rfl) (by kernel_rfl) (by kernel_rfl) (fun _ _ _ h => h) (Or.inl ⟨by rfl, ?_⟩) (by assumption) ?_
  rotate_left
  · (intro w hSw; (try dsimp only at hSw); go_simp <;> with_reducible rfl)
  try simp only [Act.put]
  try simp only [List.setIfInBounds_toArray]
  try simp only [List.set_cons_succ]
  try simp only [List.set_cons_zero]
  refine wpAnyH_take (i := 12) (oi := ⟨some 67, _, _, _, _, _⟩) (v := ?_) rfl (by kernel_rfl) (by kernel_rfl) (by kernel_rfl) (fun _ _ _ h => h) (Or.inl ⟨by rfl, ?_⟩) (by assumption) ?_
  rotate_left
  · (intro w hSw; (try dsimp only at hSw); go_simp <;> with_reducible rfl)
  try simp only [Act.put]
  try simp only [List.setIfInBounds_toArray]
  try simp only [List.set_cons_succ]
  try simp only [List.set_cons_zero]
  refine wpAnyH_take (i := 13) (oi := ⟨some 68, _, _, _, _, _⟩) (v := ?_) rfl (by kernel_rfl) (by kernel_rfl) (by kernel_rfl) (fun _ _ _ h => h) (Or.inl ⟨by rfl, ?_⟩) (by assumption) ?_
  rotate_left
  · (intro w hSw; (try dsimp only at hSw); go_simp <;> with_reducible rfl)
  try simp only [Act.put]
  try simp only [List.setIfInBounds_toArray]
  try simp only [List.set_cons_succ]
  try simp only [List.set_cons_zero]
  refine wpAnyH_take (i := 14) (oi := ⟨some 69, _, _, _, _, _⟩) (v := ?_) rfl (by kernel_rfl) (by kernel_rfl) (by kernel_rfl) (fun _ _ _ h => h) (Or.inl ⟨by rfl, ?_⟩) (by assumption) ?_
  rotate_left
  · (intro w hSw; (try dsimp only at hSw); go_simp <;> with_reducible rfl)
  try simp only [Act.put]
  try simp only [List.setIfInBounds_toArray]
  try simp only [List.set_cons_succ]
  try simp only [List.set_cons_zero]
  refine wpAnyH_take (i := 15) (oi := ⟨some 70, _, _, _, _, _⟩) (v := ?_) rfl (by kernel_rfl) (by kernel_rfl) (by kernel_rfl) (fun _ _ _ h => h) (Or.inl ⟨by rfl, ?_⟩) (by assumption) ?_
  rotate_left
  · (intro w hSw; (try dsimp only at hSw); go_simp <;> with_reducible rfl)
  try simp only [Act.put]
  try simp only [List.setIfInBounds_toArray]
  try simp only [List.set_cons_succ]
  try simp only [List.set_cons_zero]
  refine wpAnyH_ready (rs := [10]) (by kernel_rfl) (by simp) ?_
  refine AllReadyH.cons (o := ⟨some 65, _, _, _, _, _⟩) rfl (fun K hK => ?_) AllReadyH.nil
  go_simp
  go_at_call 18
  refine (H2.out _).mono ?_
  rintro e w5 ⟨rfl, HR5, hb5⟩
  have hbw5 : Below w.heap.size w w5 := hbw4.drew.trans (hb5.mono hbw4.drew.size)
  have c5 := C0.out w5 hbw5
  have c6 : (convert 22 9 (.slice (some ⟨w4.heap.size, 0, none⟩) Y.length Y.length)).run Try.prog w5 = .ok (.string ⟨Y.toArray⟩) w5 := Wd.conv (HR5.out.bts HR5.out.lt) Y.length
  clear HR5 hb5 hHeld c1
  go_wp2_with fail
  refine hK.out _ _ ?_ (fun hHeld2 => ?_)
  · exact c5
  clear hK K
  try simp only [Act.put]
  try simp only [List.setIfInBounds_toArray]
  try simp only [List.set_cons_succ]
  try simp only [List.set_cons_zero]
  refine wpAnyH_ready (rs := [11]) (by kernel_rfl) (by simp) ?_
  refine AllReadyH.cons (o := ⟨some 66, _, _, _, _, _⟩) rfl (fun K hK => ?_) AllReadyH.nil
  go_simp
  refine hK.out _ _ ?_ (fun hHeld2 => ?_)
  · exact c5
  clear hK K
  try simp only [Act.put]
  try simp only [List.setIfInBounds_toArray]
  try simp only [List.set_cons_succ]
  try simp only [List.set_cons_zero]
  refine wpAnyH_take (i := 16) (oi := ⟨some 71, _, _, _, _, _⟩) (v := ?_) rfl (by kernel_rfl) (by kernel_rfl) (by kernel_rfl) (fun _ _ _ h => h) (Or.inl ⟨by rfl, ?_⟩) (by assumption) ?_
  rotate_left
  · (intro w hSw; (try dsimp only at hSw); go_simp <;> with_reducible rfl)
  try simp only [Act.put]
  try simp only [List.setIfInBounds_toArray]
  try simp only [List.set_cons_succ]
  try simp only [List.set_cons_zero]
  refine wpAnyH_take (i := 17) (oi := ⟨some 72, _, _, _, _, _⟩) (v := ?_) rfl (by kernel_rfl) (by kernel_rfl) (by kernel_rfl) (fun _ _ _ h => h) (Or.inl ⟨by rfl, ?_⟩) (by assumption) ?_
  rotate_left
  · (intro w hSw; (try dsimp only at hSw); go_simp <;> with_reducible rfl)
  try simp only [Act.put]
  try simp only [List.setIfInBounds_toArray]
  try simp only [List.set_cons_succ]
  try simp only [List.set_cons_zero]
  refine wpAnyH_take (i := 18) (oi := ⟨some 4, _, _, _, _, _⟩) (v := ?_) rfl (by kernel_rfl) (by kernel_rfl) (by kernel_rfl) (fun _ _ _ h => h) (Or.inl ⟨by rfl, ?_⟩) (by assumption) ?_
  rotate_left
  · (intro w hSw; (try dsimp only at hSw); go_simp <;> with_reducible rfl)
  try simp only [Act.put]
  try simp only [List.setIfInBounds_toArray]
  try simp only [List.set_cons_succ]
  try simp only [List.set_cons_zero]
  refine wpAnyH_done (by kernel_rfl) ?_ _
  refine NoPanic.normal ?_
  go_wp2
  go_ret
  exact ⟨rfl, hbw5⟩
set_option maxRecDepth 100000 in
set_option maxHeartbeats 400000 in
theorem back_err (w : World) (n : Nat) (hn : n < 18446744073709551616) (A : Option Addr) (l : List UInt8) (c : Nat) (hB : Wd.Bts w w.heap.size A l) (hl : l.length ≤ 20000) (hc : A = none → c = 0) (hlc : l.length ≤ c) (X L : List UInt8) (hX : Wd.varL n = X) (hXl : X.length ≤ 10)
    (hL : X ++ l = L) (hr : Wd.rd 0 0 L = (n, X.length, 0)) (x : Nat) (hr2 : Wd.rd 0 0 l = (0, 0, x)) (hx : ((x : Int) != 0) = true) :
    Calls Try.prog 7 #[.int .u64 (n : Int), .slice A l.length c] w fun e w' => e = .returned (.bool true) ∧ Below w.heap.size w w' := by
  have H := Lib.hid hB
  have HN := Lib.hid hc
  have h1 := fun w => var_nil n w hn
  rw [hX] at h1
  have H1 := Lib.hid h1
  have HL := Lib.hid hL
  have hLl : L.length ≤ 20010 := by rw [← hL, List.length_append]; omega
  have HR := Lib.hid hr
  have HR2 := Lib.hid hr2
  clear hB hc h1 hX hL hr hr2
  go_enter Try.func7, Try.ntmps7
  go_wp2_with (first
    | (go_at_call 10; refine (awake_any _).mono ?_; rintro e w1 ⟨rfl, hb1⟩)
    | (go_at_call 11; refine (long_no _ _ _ _ hl).mono ?_; rintro e w' ⟨rfl, rfl⟩))
  refine (H1.out w1).mono ?_
  rintro e w2 ⟨rfl, HR2', hb2⟩
  have hbw2 : Below w.heap.size w w2 := hb1.trans (hb2.mono hb1.size)
  have hb2a := hbw2.alloc hbw2.size (.cells #[] 5)
  have hcap : (some ⟨w1.heap.size, 0, none⟩ : Option Addr) = none → X.length = 0 := fun h => by cases h
  have HC := Lib.hid hcap
  have hXb : Wd.Bts (w2.alloc (.cells #[] 5)) w2.heap.size (some ⟨w1.heap.size, 0, none⟩) X := (HR2'.out.bts HR2'.out.lt).below ((Below.refl _ _).alloc (Nat.le_refl _) _)
  have HX := Lib.hid hXb
  clear hcap hXb
  have tok : True := trivial
  go_wp2_with (first
    | (at_builtin; have _t := tok; refine Wd.wpList_append8 rfl (.tmp 17) (.tmp 18) rfl w.heap.size w2.heap.size _ [] X X rfl (Wd.OwnV.empty w2 _ hbw2.size) _ _ rfl HC.out HX.out rfl (by omega) hb2a.size ?_; intro A3 c3 w3 HO3 hb3; clear tok; have hbw3 := hb2a.trans hb3)
    | (at_builtin; refine Wd.wpList_append8 rfl (.tmp 19) (.tmp 20) rfl w.heap.size w.heap.size _ X l L rfl HO3.out A c rfl HN.out (H.out.below hbw3) HL.out (by omega) hbw3.size ?_; intro A4 c4 w4 HO4 hb4; have hbw4 := hbw3.trans hb4))
  refine (read_any A4 L c4 _ n X.length 0 w4 HO4.out.bts (by omega) HR.out).mono ?_
  rintro e w' ⟨rfl, rfl⟩
  clear HO4 HO3 hb4 hb3 HX HC HR2'
  go_wp2_with fail
  refine (read_any A l c _ 0 0 x w4 (H.out.below hbw4) (by omega) HR2.out).mono ?_
  rintro e w' ⟨rfl, rfl⟩
  go_wp2
  go_ret
  exact ⟨rfl, hbw4⟩
theorem back_walk (w : World) (m : Int) (wm : (Lit.int .u64 m).wf = true) (A : Option Addr) (l : List UInt8) (c : Nat) (hB : Wd.Bts w w.heap.size A l) (hl : l.length ≤ maxLen) (hc : A = none → c = 0) (hlc : l.length ≤ c) :
    Calls Try.prog 7 #[.int .u64 m, .slice A l.length c] w fun e w' => e = .returned (.bool true) ∧ Below w.heap.size w w' := by
  obtain ⟨m0, m1⟩ := bounds_u64 wm
  obtain ⟨n, rfl⟩ := Int.eq_ofNat_of_zero_le m0
  have hn : n < 18446744073709551616 := by omega
  unfold maxLen at hl
  clear wm
  by_cases h1 : l.length ≤ 20000
  · have hX := Wd.length_varL n
    have hz := Wd.vsz_bd n hn
    have hr := Wd.rd_var n l hn
    obtain ⟨v, s, x, hr2⟩ : ∃ v s x, Wd.rd 0 0 l = (v, s, x) := ⟨_, _, _, rfl⟩
    by_cases hx : x = 0
    · subst hx
      obtain ⟨g1, g2, g3⟩ := Wd.rd_ok l v s hr2
      exact back_core w n hn A l c hB h1 hc hlc _ _ rfl (by omega) rfl hr v s hr2 g1 g2 _ rfl (Wd.rd_bound l 0 0 v s 0 (by omega) (by decide) hr2) g3
    · obtain ⟨rfl, rfl⟩ := Wd.rd_err l 0 0 v s x hr2 hx
      exact back_err w n hn A l c hB h1 hc hlc _ _ rfl (by omega) rfl hr x hr2 (by rw [bne_iff_ne]; omega)
  · clear hB hc
    go_enter Try.func7, Try.ntmps7
    go_wp2_with (first
      | (go_at_call 10; refine (awake_any _).mono ?_; rintro e w1 ⟨rfl, hb1⟩)
      | (go_at_call 11; refine (long_yes _ _ _ _ hl (by omega)).mono ?_; rintro e w' ⟨rfl, rfl⟩))
    go_ret
    exact ⟨rfl, hb1⟩

set_option maxRecDepth 100000 in
theorem wordBack_lifted (os : Os) (started : os.Started) (H : Type) (enc : TypeId × Value → H) :
    ReturnsInHanded {} Try.checked os 7 .any (Rows.wordBackSpec.pre6 enc Try.prog Try.f7 Rows.wordBackRow.domain false) (Rows.wordBackSpec.post enc Try.prog Try.f7 false true false false) := by
  refine returnsInHanded_of_change (C := Try.checked) own started (by kernel_rfl) Try.func7
    (ChangeSpec.witness6 (enc := enc) (C := Try.checked) false ⟨#[], #[.int .u64 0, .slice none 0 0], []⟩ 8 (by kernel_rfl) (by kernel_rfl) (by kernel_rfl) (by kernel_rfl)) ?_
  intro W base args ds gs before hval0 hW hcnd _
  have hval : ∀ (j : Nat) t v, Try.f7.params[j]? = some t → args[j]? = some v → Value.okWide Try.prog W .any base t v := hval0
  have hW' := hW
  obtain ⟨p, q, hA0, hV, rfl, hfz, hnd⟩ := hW
  have hA : DataW.TrodAll enc Try.prog W 0 (fun _ => true) true Try.f7.params.toList args.toList ds p := hA0
  rw [Try.params7] at hA hval
  obtain ⟨v0, vs0, d0, ds0, p0, q0, hargs, rfl, rfl, h0, r0⟩ := trodAll_cons hA
  obtain ⟨v1, vs1, d1, ds1, p1, q1, rfl, rfl, rfl, h1, r1⟩ := trodAll_cons r0
  obtain ⟨rfl, rfl, rfl⟩ := trodAll_nil r1
  obtain rfl : args = #[v0, v1] := by cases args; simp_all
  obtain ⟨rfl, rfl⟩ := trodVars_none hV
  obtain ⟨a0, rfl, rfl, rfl, w0⟩ := open_int Try.underlying23 (hval 0 23 v0 rfl rfl) h0
  obtain ⟨a1, len1, cap1, rfl⟩ := okWide_slice Try.underlying22 (hval 1 22 v1 rfl rfl)
  have k1 := h1
  have lt1 : ∀ x ∈ p1, x.block < W.heap.size := by obtain ⟨m, hm⟩ := k1; exact DataW.trod_lt m _ _ _ hm
  obtain ⟨l1, rfl, b1, m1, n1, t1⟩ := Wd.open_bytes h1
  clear hA0 hval0
  refine (back_walk W a0 w0 a1 l1 cap1 b1 m1 n1 t1).mono fun e W' ⟨he, bel⟩ => ?_
  subst he
  exact ⟨_, rfl, _, _, _, [], _, [], hW', trodAll_mk1 (shut_bool Try.underlying4 _), (trodAll_cons_mk (shut_int Try.underlying23 w0) (trodAll_cons_mk (Below.trod laidOut (by kernel_rfl) (of_decide_eq_true (by kernel_rfl)) k1 bel lt1) (trodAll_mk0))), rfl, bel.frame _, fun h => by cases h⟩

/-- The statement WordBack. -/
theorem wordBack_holds : Rows.WordBackSaid :=
  OpenClaim.holds_of_wide 7 Try.f7 rfl rfl rfl rfl rfl rfl rfl ⟨rfl, rfl, rfl, rfl, rfl⟩ rfl rfl rfl rfl rfl (by kernel_rfl) Try.func7 (by kernel_rfl)
    (of_decide_eq_true (by kernel_rfl)) (by unfold Func.isWrapper; first | (rw [if_pos (by decide +kernel)]; kernel_rfl) | (rw [if_neg (by decide +kernel)]; exact ⟨rfl, rfl⟩))
    (fun os started H enc _ => wordBack_lifted os started H enc)
#print axioms wordBack_holds

end Go.Proofs.Ytjnenicaheppeaa
