/- Contracts of the statements' own helpers: awake answers true, long tells more than 20000 bytes. -/
import Derived.Test.YtjnenicaheppeaaRread
import Derived.Lib.SlBytesConst
namespace Go.Proofs.Ytjnenicaheppeaa
open Go.RowKit
set_option linter.unusedVariables false

theorem long_any (A : Option Addr) (n c : Nat) (w : World) (h : n ≤ 9223372036854775807) :
    Calls Try.prog 11 #[.slice A n c] w fun e w' => e = .returned (.bool (decide (20000 < n))) ∧ w = w' := by
  go_enter Try.func11, Try.ntmps11
  go_wp2
  go_ret
  exact ⟨by simp; omega, rfl⟩

namespace Wd
theorem bts_nil (w : World) (B : Nat) : Bts w B none [] := fun h => absurd h (by decide)
theorem var300 : varL 300 = [172, 2] := by decide +kernel
theorem rd300 : rd 0 0 [172, 2, 9] = (300, 2, 0) := by decide +kernel
theorem put258 : putL 258 2 = [1, 2] := by decide +kernel
theorem crc9 : 4294967295 - crcs 4294967295 [[49, 50, 51, 52], [53, 54, 55, 56, 57]] = 3421780262 := by decide +kernel
end Wd

theorem read_lit (W : World) : Calls Try.prog 16 #[.slice (some ⟨W.heap.size, 0, none⟩) 3 3] (W.alloc (.cells #[.int .u8 172, .int .u8 2, .int .u8 9] 5)) fun e w' =>
    e = .returned (.tuple #[.int .u64 300, .int .i64 2, .int .i64 0]) ∧ W.alloc (.cells #[.int .u8 172, .int .u8 2, .int .u8 9] 5) = w' := by
  have hr : Wd.Row (W.alloc (.cells #[.int .u8 172, .int .u8 2, .int .u8 9] 5)) W.heap.size [172, 2, 9] := heap_alloc_new W _
  exact read_any _ [172, 2, 9] 3 (W.heap.size + 1) 300 2 0 _ (hr.bts (Nat.lt_succ_self _)) (by decide) Wd.rd300
def lit4 : Obj := .cells #[.int .u8 49, .int .u8 50, .int .u8 51, .int .u8 52] 5 (4, 5)
def lit5 : Obj := .cells #[.int .u8 53, .int .u8 54, .int .u8 55, .int .u8 56, .int .u8 57] 5 (5, 6)
def lit2 (n : Nat) : Obj := .cells #[.slice (some ⟨n, 0, none⟩) 4 4, .slice (some ⟨n + 1, 0, none⟩) 5 5] 22
theorem prts_lit (W : World) : Wd.Prts (((W.alloc lit4).alloc lit5).alloc (lit2 W.heap.size)) (W.heap.size + 3) (some ⟨W.heap.size + 1 + 1, 0, none⟩) [[49, 50, 51, 52], [53, 54, 55, 56, 57]] := by
  have s1 : (W.alloc lit4).heap.size = W.heap.size + 1 := World.size_alloc ..
  have s2 : ((W.alloc lit4).alloc lit5).heap.size = W.heap.size + 1 + 1 := by rw [World.size_alloc, s1]
  have h3 := heap_alloc_new ((W.alloc lit4).alloc lit5) (lit2 W.heap.size)
  rw [s2] at h3
  have h2 := heap_alloc_new (W.alloc lit4) lit5
  rw [s1, ← Below.heap_alloc _ (lit2 W.heap.size) _ (by rw [s2]; omega)] at h2
  have h1 := heap_alloc_new W lit4
  rw [← Below.heap_alloc _ lit5 _ (by rw [s1]; omega), ← Below.heap_alloc _ (lit2 W.heap.size) _ (by rw [s2]; omega)] at h1
  generalize ((W.alloc lit4).alloc lit5).alloc (lit2 W.heap.size) = W3 at *
  refine fun _ => ⟨_, 0, rfl, by omega, fun j hj => ?_⟩
  match j, hj with
  | 0, _ => exact ⟨some ⟨W.heap.size, 0, none⟩, 4, cell_of_row W3 _ 0 _ _ _ h3, fun _ => ⟨_, 0, rfl, by omega, fun i hi => by
      match i, hi with
      | 0, _ => exact cell_of_row W3 _ 0 _ _ _ h1
      | 1, _ => exact cell_of_row W3 _ 1 _ _ _ h1
      | 2, _ => exact cell_of_row W3 _ 2 _ _ _ h1
      | 3, _ => exact cell_of_row W3 _ 3 _ _ _ h1⟩⟩
  | 1, _ => exact ⟨some ⟨W.heap.size + 1, 0, none⟩, 5, cell_of_row W3 _ 1 _ _ _ h3, fun _ => ⟨_, 0, rfl, by omega, fun i hi => by
      match i, hi with
      | 0, _ => exact cell_of_row W3 _ 0 _ _ _ h2
      | 1, _ => exact cell_of_row W3 _ 1 _ _ _ h2
      | 2, _ => exact cell_of_row W3 _ 2 _ _ _ h2
      | 3, _ => exact cell_of_row W3 _ 3 _ _ _ h2
      | 4, _ => exact cell_of_row W3 _ 4 _ _ _ h2⟩⟩
theorem sum_lit (W : World) : Calls Try.prog 23 #[.slice (some ⟨W.heap.size + 1 + 1, 0, none⟩) 2 2] (((W.alloc lit4).alloc lit5).alloc (lit2 W.heap.size)) fun e w' =>
    e = .returned (.int .u32 3421780262) ∧ ((W.alloc lit4).alloc lit5).alloc (lit2 W.heap.size) = w' := by
  have h := sum_any _ 2 _ _ _ (prts_lit W) (by decide) (by decide)
  rw [Wd.crc9] at h
  exact h
theorem put_lit (W : World) : Calls Try.prog 12 #[.slice none 0 0, .int .u64 258, .int .i64 2] W fun e w' => e = .returned (.slice (some ⟨W.heap.size, 0, none⟩) 2 2) ∧ Hid (Wd.Row w' W.heap.size [1, 2]) ∧ Below W.heap.size W w' := by
  have h := put_any none [] 0 0 258 2 W (Wd.bts_nil W 0) (Nat.zero_le _) (by decide) (by decide)
  rw [show Wd.clamp 2 = 2 from rfl, Wd.put258] at h
  exact h
theorem zig_lit (W : World) : Calls Try.prog 20 #[.int .i64 (-1)] W fun e w' => e = .returned (.int .u64 1) ∧ W = w' := zig_any (-1) W (by decide) (by decide)

set_option maxRecDepth 100000 in
set_option maxHeartbeats 1000000 in
theorem awake_any (w : World) : Calls Try.prog 10 #[] w fun e w' => e = .returned (.bool true) ∧ Below w.heap.size w w' := by
  have hvar := var_any none [] 0 0 300 w (Wd.bts_nil w 0) (Nat.zero_le _) (by decide) (by decide)
  rw [Wd.var300] at hvar
  have HVAR := Lib.hid hvar
  clear hvar
  go_enter Try.func10, Try.ntmps10
  go_wp2_with (go_at_call 18; refine HVAR.out.mono ?_; rintro e w1 ⟨rfl, HR1, hb1⟩)
  refine (read_lit w1).mono ?_
  rintro e w2 ⟨rfl, hw2⟩
  have hc0 : w2.cell? ⟨w.heap.size, 0, none⟩ = some (.int .u8 172) := by
    rw [← hw2, World.cell?_alloc_lt w1 _ _ HR1.out.lt]
    exact HR1.out.cell 0 (by decide)
  have hb2 : Below w.heap.size w w2 := hw2 ▸ hb1.alloc hb1.size _
  clear hw2 HR1 hb1 HVAR
  have kc := fun (C : Array Value) (n c : Nat) => Lib.run_convert_bytes_const (P := Try.prog) w2 22 5 C n c Try.underlying22 Try.underlying5
  have kc2 := fun (X : Obj) (C : Array Value) (n c : Nat) => Lib.run_convert_bytes_const (P := Try.prog) (w2.alloc X) 22 5 C n c Try.underlying22 Try.underlying5
  simp only [World.size_alloc] at kc2
  go_wp2_with (go_at_call 20; refine (zig_lit _).mono ?_; rintro e w3 ⟨rfl, rfl⟩)
  refine (sum_lit w2).mono ?_
  rintro e w3 ⟨rfl, hw3⟩
  have hb3 : Below w.heap.size w w3 := hw3 ▸ ((hb2.alloc hb2.size _).alloc (by rw [World.size_alloc]; have := hb2.size; omega) _).alloc (by rw [World.size_alloc, World.size_alloc]; have := hb2.size; omega) _
  clear hw3 kc kc2 hc0
  go_wp2_with (go_at_call 12; refine (put_lit _).mono ?_; rintro e w4 ⟨rfl, HR4, hb4⟩; have hcv : (convert 22 9 (.slice (some ⟨w3.heap.size, 0, none⟩) 2 2)).run Try.prog w4 = .ok (.string ⟨#[1, 2]⟩) w4 := Wd.conv (HR4.out.bts HR4.out.lt) 2)
  go_ret
  exact ⟨rfl, hb3.trans (hb4.mono hb3.size)⟩
end Go.Proofs.Ytjnenicaheppeaa
