/- The text of a day: contracts of Text and of the document's Text. -/
import Derived.Test.YtgmcmidddhpbcaaDoorClock
namespace Go.Proofs.YtgmcmidddhpbcaaDoor
open Go.RowKit
set_option linter.unusedVariables false

namespace Dt
/-- The first day of a month. -/
def fst : Nat → Nat
  | 0 => 0
  | m + 1 => fst m + ln m
/-- The month of a day. -/
def mon (d : Nat) : Nat := ((List.range 11).filter fun m => decide (fst (m + 1) ≤ d)).length
/-- The text of a day. -/
def txt (d : Nat) : ByteArray := two (d - fst (mon d) + 1) ++ nm (mon d)
theorem two_size (n : Nat) : (two n).size = 2 := rfl
theorem nm_size (m : Nat) : (nm m).size = 3 := by unfold nm; split <;> rfl
theorem fst_succ (m : Nat) : fst (m + 1) = fst m + ln m := rfl
theorem mon_at : ∀ m < 12, ∀ k < ln m, mon (fst m + k) = m := by decide +kernel
theorem mon_of : ∀ d < 366, mon d < 12 ∧ fst (mon d) ≤ d ∧ d < fst (mon d) + ln (mon d) := by decide +kernel
theorem ln_le : ∀ m < 12, ln m ≤ 31 ∧ 29 ≤ ln m := by decide +kernel
theorem fst_room : ∀ m < 12, fst (m + 1) < 366 → m + 1 < 12 := by decide +kernel
theorem fst_le : ∀ m ≤ 12, fst m ≤ 366 := by decide +kernel
theorem txt_at {m k : Nat} (hm : m < 12) (hk : k < ln m) : txt (fst m + k) = two (k + 1) ++ nm m := by
  unfold txt
  rw [mon_at m hm k hk, Nat.add_sub_cancel_left]
theorem txt_of {d : Nat} (hd : d < 366) : ∃ m k, m < 12 ∧ k < ln m ∧ d = fst m + k :=
  have h := mon_of d hd
  ⟨mon d, d - fst (mon d), h.1, by omega, by omega⟩

/-- The table of the months' lengths, as it lies in memory. -/
def Tab (w : World) : Prop := 0 < w.heap.size ∧ ∀ m < 12, w.cell? ⟨0, m, none⟩ = some (.int .u8 (ln m : Int))
theorem Tab.below {w w' : World} (h : Tab w) (hb : Below w.heap.size w w') : Tab w' :=
  ⟨Nat.lt_of_lt_of_le h.1 hb.size, fun m hm => (hb.cell (p := ⟨0, m, none⟩) h.1).trans (h.2 m hm)⟩
end Dt

theorem text_yes (d : Nat) (w : World) (hw : Dt.Tab w) (h : d < 366) : Calls Tryd.prog 9 #[.int .i64 (d : Int)] w fun e w' => e = .returned (.tuple #[.string (Dt.txt d), .int .i64 0]) ∧ Below w.heap.size w w' := by
  have HW := Lib.hid hw
  clear hw
  go_enter Tryd.func9, Tryd.ntmps9
  go_wp2_with (go_at_call 22; refine (isDay_yes _ _ (by omega) (by omega)).mono ?_; rintro e w' ⟨rfl, rfl⟩)
  go_loop [4, 5] (fun i r => ∃ m k : Nat, m < 12 ∧ k ≤ d ∧ i = .int .i64 m ∧ r = .int .i64 k ∧ Hid (Dt.fst m + k = d)) (fun i _ => 12 - (intOf i).toNat)
  case atStart => exact ⟨0, d, by omega, by omega, rfl, rfl, show _ = _ by simp [Dt.fst]⟩
  case round =>
    obtain ⟨m, k, hm, hkd, rfl, rfl, HK⟩ := hrel
    have hc := HW.out.2 m hm
    have h31 := (Dt.ln_le m hm).1
    have HS : Hid (Dt.fst (m + 1) = Dt.fst m + Dt.ln m) := Dt.fst_succ m
    have HR := Lib.hid (Dt.fst_room m hm)
    have HT : Hid (∀ k < Dt.ln m, Dt.txt (Dt.fst m + k) = Dt.two (k + 1) ++ Dt.nm m) := fun k hk => Dt.txt_at hm hk
    obtain ⟨L, hL⟩ : ∃ L, Dt.ln m = L := ⟨_, rfl⟩
    rw [hL] at hc h31 HS HT
    clear hL
    by_cases hlt : L ≤ k
    · go_wp2
      go_round
      case rel => exact ⟨m + 1, k - L, HR.out (by rw [HS.out]; have := HK.out; omega), by omega, by go_num, val_int (by omega), show _ = _ by rw [HS.out]; have := HK.out; omega⟩
      case measure => simp [intOf]; omega
    · have HE := Lib.hid (HT.out k (by omega))
      rw [HK.out] at HE
      have z1 := Dt.two_size (k + 1)
      have z2 := Dt.nm_size m
      go_wp2_with (first
        | (go_at_call 23; refine (pair_at _ (k + 1) _ (by omega) (by omega)).mono ?_; rintro e w1 ⟨rfl, hb1⟩)
        | (go_at_call 24; refine (monthName_any m _ hm).mono ?_; rintro e w2 ⟨rfl, rfl⟩))
      go_ret2
      exact ⟨ret_tuple (congrArg Value.string HE.out.symm) rfl, hb1⟩
theorem text_no (n : Int) (w : World) (h : ¬ (0 ≤ n ∧ n < 366)) : Calls Tryd.prog 9 #[.int .i64 n] w fun e w' => e = .returned (.tuple #[.string ⟨#[]⟩, .int .i64 1]) ∧ w = w' := by
  have H := Lib.hid h
  clear h
  go_enter Tryd.func9, Tryd.ntmps9
  go_wp2_with (go_at_call 22; refine (isDay_no _ _ H.out).mono ?_; rintro e w' ⟨rfl, rfl⟩)
  go_ret2
  exact ⟨rfl, rfl⟩
theorem rtext_no (n : Int) (w : World) (h : ¬ (0 ≤ n ∧ n < 366)) : Calls Tryd.prog 10 #[.int .i64 n] w fun e w' => e = .returned (.tuple #[.string ⟨#[]⟩, .int .i64 1]) ∧ w = w' := by
  rcases (show n < 0 ∨ (0 ≤ n ∧ 366 ≤ n) by omega) with h1 | ⟨h1, h2⟩
  all_goals clear h
  all_goals go_enter Tryd.func10, Tryd.ntmps10
  all_goals go_wp2
  all_goals go_ret2
  all_goals exact ⟨rfl, rfl⟩
theorem month_at (x : Int) (m : Nat) (w : World) (hx : x = (m : Int)) (h : m < 12) : Calls Tryd.prog 25 #[.int .i64 x] w fun e w' => e = .returned (.tuple #[.string (Dt.nm m), .int .i64 (Dt.ln m : Int)]) ∧ w = w' := by
  subst hx; exact month_any m w h
theorem rtext_yes (d : Nat) (w : World) (h : d < 366) : Calls Tryd.prog 10 #[.int .i64 (d : Int)] w fun e w' => e = .returned (.tuple #[.string (Dt.txt d), .int .i64 0]) ∧ Below w.heap.size w w' := by
  go_enter Tryd.func10, Tryd.ntmps10
  go_wp2
  go_loop [4, 5] (fun n i => ∃ m f : Nat, m ≤ 12 ∧ f ≤ d ∧ n = .int .i64 (f : Int) ∧ i = .int .i64 m ∧ Hid (Dt.fst m = f)) (fun _ i => 12 - (intOf i).toNat)
  case atStart => exact ⟨0, 0, by omega, by omega, rfl, rfl, show _ = _ by simp [Dt.fst]⟩
  case round =>
    obtain ⟨m, f, hm, hfd, rfl, rfl, HF⟩ := hrel
    have h12 : m < 12 := by
      rcases Nat.lt_or_ge m 12 with h | h
      · exact h
      · have e : m = 12 := by omega
        subst e
        have : Dt.fst 12 = 366 := by decide +kernel
        have := HF.out
        omega
    have h31 := (Dt.ln_le m h12).1
    have HS : Hid (Dt.fst (m + 1) = Dt.fst m + Dt.ln m) := Dt.fst_succ m
    have HT : Hid (∀ k < Dt.ln m, Dt.txt (Dt.fst m + k) = Dt.two (k + 1) ++ Dt.nm m) := fun k hk => Dt.txt_at h12 hk
    have HM := Lib.hid (fun x w hx => month_at x m w hx h12)
    have z2 := Dt.nm_size m
    obtain ⟨L, hL⟩ : ∃ L, Dt.ln m = L := ⟨_, rfl⟩
    rw [hL] at h31 HS HT HM
    clear hL
    go_wp2_with (go_at_call 25; refine (HM.out _ _ rfl).mono ?_; rintro e w2 ⟨rfl, rfl⟩)
    go_loop [4, 8] (fun n i => ∃ k g : Nat, 1 ≤ k ∧ k ≤ L + 1 ∧ g ≤ d ∧ n = .int .i64 (g : Int) ∧ i = .int .i64 k ∧ Hid (f + k = g + 1)) (fun _ i => 400 - (intOf i).toNat)
    case atStart => exact ⟨1, f, by omega, by omega, hfd, rfl, rfl, show _ = _ from rfl⟩
    case round =>
      obtain ⟨k, g, hk1, hkL, hgd, rfl, rfl, HG⟩ := hrel
      by_cases hkl : k ≤ L
      · rcases Nat.lt_or_ge g d with hlt | hge
        · have hne : ((g : Int) == (d : Int)) = false := by simp; omega
          go_wp2
          go_round
          case rel => exact ⟨k + 1, g + 1, by omega, by omega, by omega, by go_num, by go_num, show _ = _ by have := HG.out; omega⟩
          case measure => simp [intOf]; omega
        · have hgd' : g = d := by omega
          subst hgd'
          have HE := Lib.hid (HT.out (k - 1) (by omega))
          rw [show Dt.fst m + (k - 1) = g by have := HG.out; have := HF.out; omega, show k - 1 + 1 = k by omega] at HE
          have z1 := Dt.two_size k
          go_wp2_with (go_at_call 26; refine (rtwo_at _ k _ rfl (by omega)).mono ?_; rintro e w1 ⟨rfl, hb1⟩)
          go_ret2
          exact ⟨ret_tuple (congrArg Value.string HE.out.symm) rfl, hb1⟩
      · have hk' : k = L + 1 := by omega
        subst hk'
        go_wp2
        go_round
        case rel => exact ⟨m + 1, g, by omega, hgd, rfl, by go_num, show _ = _ by rw [HS.out]; have := HG.out; have := HF.out; omega⟩
        case measure => simp [intOf]; omega
end Go.Proofs.YtgmcmidddhpbcaaDoor
