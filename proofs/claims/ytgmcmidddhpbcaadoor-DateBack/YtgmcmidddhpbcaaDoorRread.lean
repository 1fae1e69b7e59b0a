/- Reading a day: contract of the document's Read. -/
import Derived.Test.YtgmcmidddhpbcaaDoorRead
namespace Go.Proofs.YtgmcmidddhpbcaaDoor
open Go.RowKit
set_option linter.unusedVariables false

theorem rread_size (s : ByteArray) (w : World) (hs : s.size ≤ maxLen) (h : s.size ≠ 5) : Calls Tryd.prog 16 #[.string s] w fun e w' => e = .returned (.tuple #[.int .i64 0, .bool false]) ∧ Below w.heap.size w w' := by
  have hi : ((s.size : Int) == 5) = false := by simp; omega
  unfold maxLen at hs
  clear h
  go_enter Tryd.func16, Tryd.ntmps16
  go_wp2
  go_loopw [4, 5] (fun n i wr => ∃ m f : Nat, m ≤ 12 ∧ f ≤ 100 * m ∧ n = .int .i64 (f : Int) ∧ i = .int .i64 m ∧ Below w.heap.size w wr) (fun _ i _ => 12 - (intOf i).toNat)
  case atStart => exact ⟨0, 0, by omega, by omega, rfl, rfl, Below.refl _ _⟩
  case round =>
    obtain ⟨m, f, hm, hf, rfl, rfl, hb⟩ := hrel
    by_cases h12 : m < 12
    · have h31 := (Dt.ln_le m h12).1
      have HM := Lib.hid (fun x w hx => month_at x m w hx h12)
      obtain ⟨L, hL⟩ : ∃ L, Dt.ln m = L := ⟨_, rfl⟩
      rw [hL] at h31 HM
      clear hL
      go_wp2_with (go_at_call 25; refine (HM.out _ _ rfl).mono ?_; rintro e w2 ⟨rfl, rfl⟩)
      clear HM
      have hb0 := hb
      clear hb
      go_loopw [4, 8] (fun n i wr => ∃ k g : Nat, 1 ≤ k ∧ k ≤ L + 1 ∧ g ≤ f + k ∧ n = .int .i64 (g : Int) ∧ i = .int .i64 k ∧ Below w.heap.size w wr) (fun _ i _ => 400 - (intOf i).toNat)
      case atStart => exact ⟨1, f, by omega, by omega, by omega, rfl, rfl, hb0⟩
      case round =>
        clear hb0
        obtain ⟨k, g, hk1, hkL, hg, rfl, rfl, hb⟩ := hrel
        by_cases hkl : k ≤ L
        · go_wp2
          go_quiet (fail)
          go_wp2
          go_roundw
          case rel => exact ⟨k + 1, g + 1, by omega, by omega, by omega, by go_num, by go_num, hb.trans ((below_drewN _ _).mono hb.size)⟩
          case measure => simp [intOf]; omega
        · go_wp2
          go_roundw
          case rel => exact ⟨m + 1, g, by omega, by omega, rfl, by go_num, hb⟩
          case measure => simp [intOf]; omega
    · go_wp2
      go_ret2
      exact ⟨rfl, hb⟩
theorem rread_core (s p q : ByteArray) (w : World) (hs : s.size = 5) (h1 : s.extract 0 2 = p) (h2 : s.extract 2 5 = q) (r : Int) (o : Bool)
    (HY : Hid (∀ m < 12, q = Dt.nm m → ∀ k < Dt.ln m, p = Dt.two (k + 1) → ((Dt.fst m + k : Nat) : Int) = r ∧ true = o))
    (HN : Hid ((∀ m < 12, q = Dt.nm m → ∀ k < Dt.ln m, p ≠ Dt.two (k + 1)) → 0 = r ∧ false = o)) :
    Calls Tryd.prog 16 #[.string s] w fun e w' => e = .returned (.tuple #[.int .i64 r, .bool o]) ∧ Below w.heap.size w w' := by
  have hi : ((s.size : Int) == 5) = true := by simp; omega
  go_enter Tryd.func16, Tryd.ntmps16
  go_wp2
  go_loopw [4, 5] (fun n i wr => ∃ m f : Nat, m ≤ 12 ∧ f ≤ 366 ∧ n = .int .i64 (f : Int) ∧ i = .int .i64 m ∧ Hid (f = Dt.fst m) ∧ Hid (∀ j < m, q = Dt.nm j → ∀ k < Dt.ln j, p ≠ Dt.two (k + 1)) ∧ Below w.heap.size w wr) (fun _ i _ => 12 - (intOf i).toNat)
  case atStart => exact ⟨0, 0, by omega, by omega, rfl, rfl, show _ = _ by simp [Dt.fst], fun h hh => by omega, Below.refl _ _⟩
  case round =>
    obtain ⟨m, f, hm, hf, rfl, rfl, HF, HK, hb⟩ := hrel
    by_cases h12 : m < 12
    · have h31 := (Dt.ln_le m h12).1
      have HS : Hid (Dt.fst (m + 1) = Dt.fst m + Dt.ln m) := Dt.fst_succ m
      have HL : Hid (Dt.fst (m + 1) ≤ 366) := Dt.fst_le (m + 1) (by omega)
      have HM := Lib.hid (fun x w hx => month_at x m w hx h12)
      have HY2 := Lib.hid (HY.out m h12)
      have HK2 : Hid ((q = Dt.nm m → ∀ k < Dt.ln m, p ≠ Dt.two (k + 1)) → ∀ j < m + 1, q = Dt.nm j → ∀ k < Dt.ln j, p ≠ Dt.two (k + 1)) := fun h0 j hj e => by
        rcases Nat.lt_or_ge j m with h' | h'
        · exact HK.out j h' e
        · obtain rfl : j = m := by omega
          exact h0 e
      obtain ⟨L, hL⟩ : ∃ L, Dt.ln m = L := ⟨_, rfl⟩
      rw [hL] at h31 HM HS HY2 HK2
      clear hL
      go_wp2_with (go_at_call 25; refine (HM.out _ _ rfl).mono ?_; rintro e w2 ⟨rfl, rfl⟩)
      clear HM
      have hb0 := hb
      clear hb
      go_loopw [4, 8] (fun n i wr => ∃ k g : Nat, k ≤ L ∧ g ≤ 400 ∧ n = .int .i64 (g : Int) ∧ i = .int .i64 ((k : Int) + 1) ∧ Hid (g = f + k) ∧ Hid (q = Dt.nm m → ∀ j < k, p ≠ Dt.two (j + 1)) ∧ Below w.heap.size w wr) (fun _ i _ => 400 - (intOf i).toNat)
      case atStart => exact ⟨0, f, by omega, by omega, rfl, rfl, show _ = _ by simp, fun _ h hh => by omega, hb0⟩
      case round =>
        clear hb0
        obtain ⟨k, g, hkL, hg, rfl, rfl, HG, HP, hb⟩ := hrel
        by_cases hkl : k < L
        · by_cases hq : q = Dt.nm m
          · have e1 := Dt.str_eq hq
            by_cases hp : p = Dt.two (k + 1)
            · have e2 := Dt.str_eq hp
              obtain ⟨r1, r2⟩ := HY2.out hq k hkl hp
              rw [← HF.out, ← HG.out] at r1
              have H1 := Lib.hid r1
              have H2 := Lib.hid r2
              clear r1 r2 hp hq
              go_wp2
              go_region_held3 (fun w' => Below w.heap.size w w') (first | exact hb | exact hb.drew | exact hb.drew.trans (hb1.mono hb.size)) (first | (go_at_call 26; refine (rtwo_at _ (k + 1) _ (by omega) (by omega)).mono ?_; rintro e w1 ⟨rfl, hb1⟩))
              go_wp2
              go_ret2
              exact ⟨ret_tuple (val_int H1.out) (congrArg Value.bool H2.out), hb.drew.trans (hb1.mono hb.size)⟩
            · have e2 := Dt.str_ne hp
              have HP2 : Hid (q = Dt.nm m → ∀ j < k + 1, p ≠ Dt.two (j + 1)) := fun h0 j hj e => by
                rcases Nat.lt_or_ge j k with h' | h'
                · exact HP.out h0 j h' e
                · exact hp (by rw [e, show j = k by omega])
              clear hp hq
              go_wp2
              go_region_held3 (fun w' => Below w.heap.size w w') (first | exact hb | exact hb.drew | exact hb.drew.trans (hb1.mono hb.size)) (first | (go_at_call 26; refine (rtwo_at _ (k + 1) _ (by omega) (by omega)).mono ?_; rintro e w1 ⟨rfl, hb1⟩))
              go_wp2
              go_roundw
              case rel => exact ⟨k + 1, g + 1, by omega, by have := HG.out; omega, by go_num, by go_num, show _ = _ by have := HG.out; omega, HP2, hb.drew.trans (hb1.mono hb.size)⟩
              case measure => simp [intOf]; omega
          · have e1 := Dt.str_ne hq
            have HP2 : Hid (q = Dt.nm m → ∀ j < k + 1, p ≠ Dt.two (j + 1)) := fun h0 => absurd h0 hq
            clear hq
            go_wp2
            go_quiet (fail)
            go_wp2
            go_roundw
            case rel => exact ⟨k + 1, g + 1, by omega, by have := HG.out; omega, by go_num, by go_num, show _ = _ by have := HG.out; omega, HP2, hb.trans ((below_drewN _ _).mono hb.size)⟩
            case measure => simp [intOf]; omega
        · have HK3 := Lib.hid (HK2.out fun h0 j hj => HP.out h0 j (by omega))
          go_wp2
          go_roundw
          case rel => exact ⟨m + 1, g, by omega, by have := HS.out; have := HF.out; have := HG.out; have := HL.out; omega, rfl, by go_num, show _ = _ by have := HS.out; have := HF.out; have := HG.out; omega, HK3, hb⟩
          case measure => simp [intOf]; omega
    · obtain ⟨r1, r2⟩ := HN.out fun h hh => HK.out h (by omega)
      have H1 := Lib.hid r1
      have H2 := Lib.hid r2
      clear r1 r2
      go_wp2
      go_ret2
      exact ⟨ret_tuple (val_int H1.out) (congrArg Value.bool H2.out), hb⟩
theorem rread_yes (d : Nat) (w : World) (h : d < 366) : Calls Tryd.prog 16 #[.string (Dt.txt d)] w fun e w' => e = .returned (.tuple #[.int .i64 (d : Int), .bool true]) ∧ Below w.heap.size w w' := by
  have hz := Dt.txt_size h
  obtain ⟨m, k, hm, hk, rfl⟩ := Dt.txt_of h
  have h31 := Dt.ln_le m hm
  rw [Dt.txt_at hm hk] at hz ⊢
  refine rread_core _ (Dt.two (k + 1)) (Dt.nm m) w hz (Dt.app_left rfl) (Dt.app_right rfl (by rw [Dt.nm_size])) _ _ (fun j hj e i hi e2 => ?_) (fun hn => absurd rfl (hn m hm rfl k hk))
  obtain rfl := Dt.nm_inj m hm j hj e
  have := Dt.two_inj _ (by omega) _ (by omega) e2
  exact ⟨by omega, rfl⟩
theorem rread_no (s : ByteArray) (w : World) (hs : s.size ≤ maxLen) (h : ∀ d < 366, s ≠ Dt.txt d) : Calls Tryd.prog 16 #[.string s] w fun e w' => e = .returned (.tuple #[.int .i64 0, .bool false]) ∧ Below w.heap.size w w' := by
  by_cases h5 : s.size = 5
  · have hsp := Dt.halves (k := 2) h5 (by omega)
    refine rread_core s _ _ w h5 rfl rfl 0 false (fun m hm e k hk e2 => ?_) (fun _ => ⟨rfl, rfl⟩)
    exfalso
    have hlt : Dt.fst m + k < 366 := by
      have := Dt.fst_le (m + 1) (by omega)
      rw [Dt.fst_succ] at this
      omega
    apply h _ hlt
    rw [Dt.txt_at hm hk, hsp, e, e2]
  · exact rread_size s w hs h5
end Go.Proofs.YtgmcmidddhpbcaaDoor
