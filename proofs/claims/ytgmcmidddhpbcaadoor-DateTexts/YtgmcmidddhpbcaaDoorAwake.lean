/- Contract of the law's own test of a few answers, and what the row's list of variables gives. -/
import Derived.Test.YtgmcmidddhpbcaaDoorRread
import Derived.Test.YtgmcmidddhpbcaaDoorCards
import Derived.Test.YtgmcmidddhpbcaaDoorTie
import Derived.Deep.DeepHandedRow
import Derived.Lib.LaidTab
namespace Go.Proofs.YtgmcmidddhpbcaaDoor
open Go.RowKit
set_option linter.unusedVariables false

theorem text_lit (w : World) (hw : Dt.Tab w) : Calls Tryd.prog 9 #[.int .i64 59] w fun e w' => e = .returned (.tuple #[.string ⟨#[50, 57, 70, 69, 66]⟩, .int .i64 0]) ∧ Below w.heap.size w w' := by
  have := text_yes 59 w hw (by decide)
  rwa [show Dt.txt 59 = ⟨#[50, 57, 70, 69, 66]⟩ by decide +kernel] at this
theorem read_lit (w : World) (hw : Dt.Tab w) : Calls Tryd.prog 15 #[.string ⟨#[48, 49, 77, 65, 82]⟩] w fun e w' => e = .returned (.tuple #[.int .i64 60, .bool true]) ∧ Below w.heap.size w w' := by
  have := read_yes 60 w hw (by decide)
  rwa [show Dt.txt 60 = ⟨#[48, 49, 77, 65, 82]⟩ by decide +kernel] at this
theorem clock_lit (w : World) : Calls Tryd.prog 11 #[.int .i64 570] w fun e w' => e = .returned (.tuple #[.string ⟨#[48, 57, 51, 48]⟩, .int .i64 0]) ∧ Below w.heap.size w w' := by
  have := clock_yes 570 w (by decide)
  rwa [show Dt.clk 570 = ⟨#[48, 57, 51, 48]⟩ by decide +kernel] at this
theorem readClock_lit (w : World) : Calls Tryd.prog 17 #[.string ⟨#[50, 51, 53, 57]⟩] w fun e w' => e = .returned (.tuple #[.int .i64 1439, .bool true]) ∧ Below w.heap.size w w' := by
  have := readClock_yes 1439 w (by decide)
  rwa [show Dt.clk 1439 = ⟨#[50, 51, 53, 57]⟩ by decide +kernel] at this
theorem weekday_lit (w : World) : Calls Tryd.prog 13 #[.int .i64 6] w fun e w' => e = .returned (.int .i64 7) ∧ w = w' := weekday_yes 6 w (by decide) (by decide)

theorem awake_any (w : World) (hw : Dt.Tab w) : Calls Tryd.prog 8 #[] w fun e w' => e = .returned (.bool true) ∧ Below w.heap.size w w' := by
  have HW := Lib.hid hw
  clear hw
  go_enter Tryd.func8, Tryd.ntmps8
  go_wp2_with (first
    | (go_at_call 9; refine (text_lit _ HW.out).mono ?_; rintro e w1 ⟨rfl, hb1⟩)
    | (go_at_call 15; refine (read_lit _ (HW.out.below hb1)).mono ?_; rintro e w2 ⟨rfl, hb2⟩)
    | (go_at_call 11; refine (clock_lit _).mono ?_; rintro e w3 ⟨rfl, hb3⟩)
    | (go_at_call 17; refine (readClock_lit _).mono ?_; rintro e w4 ⟨rfl, hb4⟩)
    | (go_at_call 13; refine (weekday_lit _).mono ?_; rintro e w5 ⟨rfl, rfl⟩))
  go_ret
  have b2 := hb1.trans (hb2.mono hb1.size)
  have b3 := b2.trans (hb3.mono b2.size)
  exact ⟨rfl, b3.trans (hb4.mono b3.size)⟩

theorem own : ownKnob Tryd.prog.godebug = none := by kernel_rfl
theorem gTab : Tryd.prog.globalNamed "jetway/date.monthDays" = some 0 := by kernel_rfl
theorem gTabType : (Tryd.prog.globals[0]?).map (·.type) = some 41 := by kernel_rfl
theorem cells41 : Tryd.prog.cellsOf 41 = 12 := by kernel_rfl
theorem cells5 : Tryd.prog.cellsOf 5 = 1 := by kernel_rfl

/-- What the row's list gives: the table's cells hold the months' lengths. -/
theorem table {W : World} (h : laidMetH Tryd.prog [("jetway/date.monthDays", Rows.laid_jetway_date_monthDays)] W) : Dt.Tab W := by
  have ht : Lib.TabIs Tryd.prog W "jetway/date.monthDays" .u8 [31, 29, 31, 30, 31, 30, 31, 31, 30, 31, 30, 31] :=
    Lib.tabIs_of_head (rest := []) gTab gTabType Tryd.underlying41 Tryd.underlying5 cells5 cells41 h
  have hc : ∀ m < 12, W.cell? ⟨0, m, none⟩ = some (.int .u8 (Dt.ln m : Int)) := fun m hm => by
    have := ht.cell gTab m hm
    rw [this]
    rcases (show m = 0 ∨ m = 1 ∨ m = 2 ∨ m = 3 ∨ m = 4 ∨ m = 5 ∨ m = 6 ∨ m = 7 ∨ m = 8 ∨ m = 9 ∨ m = 10 ∨ m = 11 by omega) with rfl | rfl | rfl | rfl | rfl | rfl | rfl | rfl | rfl | rfl | rfl | rfl <;> rfl
  refine ⟨?_, hc⟩
  rcases Nat.eq_zero_or_pos W.heap.size with h0 | h0
  · have := hc 0 (by decide)
    rw [World.cell?, Array.getElem?_eq_none (by omega)] at this
    cases this
  · exact h0

/-- A world for the witnesses: the settled one, the table (block 0) holding what its initialiser lays. -/
noncomputable def laidWorld (os : Os) : World :=
  { World.holding Tryd.prog os ⟨#[], #[], []⟩ with heap := (World.holding Tryd.prog os ⟨#[], #[], []⟩).heap.modify 0 fun
      | .cells _ t frozen => .cells #[.int .u8 31, .int .u8 29, .int .u8 31, .int .u8 30, .int .u8 31, .int .u8 30, .int .u8 31, .int .u8 31, .int .u8 30, .int .u8 31, .int .u8 30, .int .u8 31] t frozen
      | o => o }
end Go.Proofs.YtgmcmidddhpbcaaDoor
