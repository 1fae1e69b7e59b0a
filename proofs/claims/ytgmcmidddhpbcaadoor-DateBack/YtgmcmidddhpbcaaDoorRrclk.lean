/- Reading a time: contract of the document's ReadClock. -/
import Derived.Test.YtgmcmidddhpbcaaDoorRclk
import Derived.Deep.RegionHeld3
namespace Go.Proofs.YtgmcmidddhpbcaaDoor
open Go.RowKit
set_option linter.unusedVariables false

namespace Dt
theorem str_ne {a b : ByteArray} (h : a ≠ b) : (a.toList == b.toList) = false := by
  rw [ByteArray.toList_eq, ByteArray.toList_eq]
  simp only [beq_eq_false_iff_ne]
  intro e
  apply h
  apply ByteArray.ext
  exact Array.toList_inj.1 e
theorem str_bne {a b : ByteArray} (h : a ≠ b) : (a.toList != b.toList) = true := by rw [bne, str_ne h]; rfl
theorem str_eq {a b : ByteArray} (h : a = b) : (a.toList == b.toList) = true := by subst h; exact beq_self_eq_true _
theorem str_beq {a b : ByteArray} (h : a = b) : (a.toList != b.toList) = false := by rw [bne, str_eq h]; rfl
end Dt

theorem rreadClock_size (s : ByteArray) (w : World) (hs : s.size ≤ maxLen) (h : s.size ≠ 4) : Calls Tryd.prog 18 #[.string s] w fun e w' => e = .returned (.tuple #[.int .i64 0, .bool false]) ∧ Below w.heap.size w w' := by
  have hi : ((s.size : Int) != 4) = true := by simp; omega
  unfold maxLen at hs
  go_enter Tryd.func18, Tryd.ntmps18
  go_wp2
  go_loopw [4] (fun i wr => ∃ k : Nat, k ≤ 24 ∧ i = .int .i64 k ∧ Below w.heap.size w wr) (fun i _ => 24 - (intOf i).toNat)
  case atStart => exact ⟨0, by omega, rfl, Below.refl _ _⟩
  case round =>
    obtain ⟨k, hk, rfl, hb⟩ := hrel
    by_cases hlt : k < 24
    · go_wp2
      go_quiet (fail)
      go_wp2
      go_roundw
      case rel => exact ⟨k + 1, by omega, by go_num, hb.trans ((below_drewN _ _).mono hb.size)⟩
      case measure => simp [intOf]; omega
    · go_wp2
      go_ret2
      exact ⟨rfl, hb⟩
theorem rreadClock_core (s p q : ByteArray) (w : World) (hs : s.size = 4) (h1 : s.extract 0 2 = p) (h2 : s.extract 2 4 = q) (r : Int) (o : Bool)
    (HY : Hid (∀ h < 24, ∀ m < 60, p = Dt.two h → q = Dt.two m → ((h * 60 + m : Nat) : Int) = r ∧ true = o))
    (HN : Hid ((∀ h < 24, ∀ m < 60, p = Dt.two h → q ≠ Dt.two m) → 0 = r ∧ false = o)) :
    Calls Tryd.prog 18 #[.string s] w fun e w' => e = .returned (.tuple #[.int .i64 r, .bool o]) ∧ Below w.heap.size w w' := by
  have hi : ((s.size : Int) != 4) = false := by simp; omega
  go_enter Tryd.func18, Tryd.ntmps18
  go_wp2
  go_loopw [4] (fun i wr => ∃ k : Nat, k ≤ 24 ∧ i = .int .i64 k ∧ Hid (∀ h < k, ∀ m < 60, p = Dt.two h → q ≠ Dt.two m) ∧ Below w.heap.size w wr) (fun i _ => 24 - (intOf i).toNat)
  case atStart => exact ⟨0, by omega, rfl, fun h hh => by omega, Below.refl _ _⟩
  case round =>
    obtain ⟨k, hk, rfl, HK, hb⟩ := hrel
    by_cases hlt : k < 24
    · by_cases hp : p = Dt.two k
      · have HP := Lib.hid hp
        have e1 := Dt.str_eq hp
        clear hp
        go_wp2
        go_region_held3 (fun w' => Below w.heap.size w w') (first | exact hb | exact hb.drew | exact hb.drew.trans (hb1.mono hb.size)) (first | (go_at_call 26; refine (rtwo_at _ k _ rfl (by omega)).mono ?_; rintro e w1 ⟨rfl, hb1⟩))
        go_wp2
        have hbb := hb.drew.trans (hb1.mono hb.size)
        clear e1 hb1
        go_loopw [5] (fun i wr => ∃ j : Nat, j ≤ 60 ∧ i = .int .i64 j ∧ Hid (∀ m < j, q ≠ Dt.two m) ∧ Below w.heap.size w wr) (fun i _ => 60 - (intOf i).toNat)
        case atStart => exact ⟨0, by omega, rfl, fun h hh => by omega, hbb⟩
        case round =>
          clear hbb
          obtain ⟨j, hj, rfl, HJ, hbj⟩ := hrel
          by_cases hjl : j < 60
          · by_cases hq : q = Dt.two j
            · obtain ⟨r1, r2⟩ := HY.out k hlt j hjl HP.out hq
              have H1 := Lib.hid r1
              have H2 := Lib.hid r2
              have e1 := Dt.str_eq hq
              clear hq r1 r2
              go_wp2
              go_region_held3 (fun w' => Below w.heap.size w w') (first | exact hbj | exact hbj.drew | exact hbj.drew.trans (hb2.mono hbj.size)) (first | (go_at_call 26; refine (rtwo_at _ j _ rfl (by omega)).mono ?_; rintro e w2 ⟨rfl, hb2⟩))
              go_wp2
              go_ret2
              exact ⟨ret_tuple (val_int ((by push_cast; rfl : _ = _).trans H1.out)) (congrArg Value.bool H2.out), hbj.drew.trans (hb2.mono hbj.size)⟩
            · have e1 := Dt.str_ne hq
              have HJ2 : Hid (∀ m < j + 1, q ≠ Dt.two m) := fun m hm e => by
                rcases Nat.lt_or_ge m j with h | h
                · exact HJ.out m h e
                · exact hq (by rw [e, show m = j by omega])
              clear hq
              go_wp2
              go_region_held3 (fun w' => Below w.heap.size w w') (first | exact hbj | exact hbj.drew | exact hbj.drew.trans (hb2.mono hbj.size)) (first | (go_at_call 26; refine (rtwo_at _ j _ rfl (by omega)).mono ?_; rintro e w2 ⟨rfl, hb2⟩))
              go_wp2
              go_roundw
              case rel => exact ⟨j + 1, by omega, by go_num, HJ2, hbj.drew.trans (hb2.mono hbj.size)⟩
              case measure => simp [intOf]; omega
          · have HK2 : Hid (∀ h < k + 1, ∀ m < 60, p = Dt.two h → q ≠ Dt.two m) := fun h hh m hm e => HJ.out m (by omega)
            go_wp2
            go_roundw
            case rel => exact ⟨k + 1, by omega, by go_num, HK2, hbj⟩
            case measure => simp [intOf]; omega
      · have e1 := Dt.str_ne hp
        have HK2 : Hid (∀ h < k + 1, ∀ m < 60, p = Dt.two h → q ≠ Dt.two m) := fun h hh m hm e => by
          rcases Nat.lt_or_ge h k with h' | h'
          · exact HK.out h h' m hm e
          · exact absurd (by rw [e, show h = k by omega]) hp
        clear hp
        go_wp2
        go_region_held3 (fun w' => Below w.heap.size w w') (first | exact hb | exact hb.drew | exact hb.drew.trans (hb1.mono hb.size)) (first | (go_at_call 26; refine (rtwo_at _ k _ rfl (by omega)).mono ?_; rintro e w1 ⟨rfl, hb1⟩))
        go_wp2
        go_roundw
        case rel => exact ⟨k + 1, by omega, by go_num, HK2, hb.drew.trans (hb1.mono hb.size)⟩
        case measure => simp [intOf]; omega
    · obtain ⟨r1, r2⟩ := HN.out fun h hh => HK.out h (by omega)
      have H1 := Lib.hid r1
      have H2 := Lib.hid r2
      clear r1 r2
      go_wp2
      go_ret2
      exact ⟨ret_tuple (val_int H1.out) (congrArg Value.bool H2.out), hb⟩
theorem rreadClock_yes (n : Nat) (w : World) (h : n < 1440) : Calls Tryd.prog 18 #[.string (Dt.clk n)] w fun e w' => e = .returned (.tuple #[.int .i64 (n : Int), .bool true]) ∧ Below w.heap.size w w' :=
  rreadClock_core (Dt.clk n) _ _ w rfl (Dt.app_left rfl) (Dt.app_right rfl rfl) n true
    (fun a ha b hb e1 e2 => by
      have := Dt.two_inj _ (by omega) _ (by omega) e1
      have := Dt.two_inj _ (by omega) _ (by omega) e2
      exact ⟨by omega, rfl⟩)
    (fun hn => absurd rfl (hn (n / 60) (by omega) (n % 60) (by omega) rfl))
theorem rreadClock_no (s : ByteArray) (w : World) (hs : s.size ≤ maxLen) (h : ∀ n < 1440, s ≠ Dt.clk n) : Calls Tryd.prog 18 #[.string s] w fun e w' => e = .returned (.tuple #[.int .i64 0, .bool false]) ∧ Below w.heap.size w w' := by
  by_cases h4 : s.size = 4
  · have hsp := Dt.halves (k := 2) h4 (by omega)
    refine rreadClock_core s _ _ w h4 rfl rfl 0 false (fun a ha b hb e1 e2 => ?_) (fun _ => ⟨rfl, rfl⟩)
    exfalso
    apply h (a * 60 + b) (by omega)
    rw [hsp, e1, e2]
    unfold Dt.clk
    rw [show (a * 60 + b) / 60 = a by omega, show (a * 60 + b) % 60 = b by omega]
  · exact rreadClock_size s w hs h4
end Go.Proofs.YtgmcmidddhpbcaaDoor
