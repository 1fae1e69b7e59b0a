/- The laws' own test, 'awake'. -/
import Derived.Test.YtngpdjkeoodigaaLive
import Derived.Lib.SlBytesConst
namespace Go.Proofs.Ytngpdjkeoodigaa
open Go.RowKit

namespace Dk
theorem burn_calm {s : S} (h : s.fused = false) : s.burn = s := by unfold S.burn; rw [if_pos h]
theorem wcode_calm {s : S} {i : Int} (h1 : s.has i = true) (h2 : s.down = false) (h3 : s.fused = false) : s.wcode i 512 = 0 := by
  unfold S.wcode; rw [burn_calm h3, if_neg (by simp [h1]), if_neg (by omega), if_neg (by simp [h2]), if_neg (by simp [h2])]
theorem write_calm_eq {s : S} {i : Int} {l : List UInt8} (h1 : s.has i = true) (h2 : s.down = false) (h3 : s.fused = false) (hl : l.length = 512) : s.write i l = s.put i l := by
  unfold S.write; rw [burn_calm h3, if_neg (by simp [h1]), if_neg (by omega), if_neg (by simp [h2])]
theorem fcode_calm {s : S} (h2 : s.down = false) (h3 : s.fused = false) : s.fcode = 0 := by
  unfold S.fcode; rw [burn_calm h3, if_neg (by simp [h2]), if_neg (by simp [h2])]
theorem flush_calm_eq {s : S} (h2 : s.down = false) (h3 : s.fused = false) : s.flush = s.done := by
  unfold S.flush; rw [burn_calm h3, if_neg (by simp [h2]), if_neg (by simp [h2])]
theorem get_full (l : List UInt8) (j : Nat) (hj : j < 512) : (full l)[j]'(by rw [length_full]; exact hj) = l.getD (j % l.length) 0 := by
  have h := get_fullTo l 512 j hj
  rw [if_pos hj] at h
  exact (List.getElem?_eq_some_iff.1 h).2
theorem Row.cell_full {w : World} {g e : Nat} {l : List UInt8} (h : Row w g e (full l)) (j : Nat) (hj : j < 512) : w.cell? ⟨g, j, none⟩ = some (.int .u8 ((l.getD (j % l.length) 0).toNat : Int)) := by
  rw [h.cell j (by rw [length_full]; exact hj), get_full l j hj]
/-- []byte of a constant. -/
theorem conv_lit (w : World) (C : Array Value) (n c : Nat) : (convert 34 34 (.slice (some ⟨w.heap.size, 0, none⟩) n c)).run Try.prog (w.alloc (.cells C 5)) = .ok (.slice (some ⟨w.heap.size, 0, none⟩) n c) (w.alloc (.cells C 5 (C.size, C.size + 1))) :=
  Lib.run_convert_bytes_const (P := Try.prog) w 34 5 C n c Try.underlying34 Try.underlying5
theorem bts_mark (w : World) (l : List UInt8) (fr : Nat × Nat) : Bts (w.alloc (.cells (cells8 l).toArray 5 fr)) (· = w.heap.size) (some ⟨w.heap.size, 0, none⟩) l := fun _ =>
  ⟨w.heap.size, 0, rfl, rfl, fun j hj => by
    rw [Nat.zero_add, cell_of_row _ _ j _ _ _ (heap_alloc_new w _), List.getElem?_toArray, get_cells8 l j hj]⟩
/-- The disk of 'awake' ahead of its restart. -/
def awakeS : S := ((((S.new 2).put 0 (full [65])).done.put 0 (full [66])).put 1 (full [66])).restart [false, true]
theorem awake_get0 : awakeS.get 0 = full [65] := by
  simp [awakeS, S.get, S.restart, S.put, S.done, S.new, lastW, lastFrom, doneOver, kept]
theorem awake_get1 : awakeS.get 1 = full [66] := by
  simp [awakeS, S.get, S.restart, S.put, S.done, S.new, lastW, lastFrom, doneOver, kept]
theorem bls_two (w : World) (x y : Bool) (G : Nat → Prop) (hG : G w.heap.size) : Bls (w.alloc (.cells #[.bool x, .bool y] 4)) G (some ⟨w.heap.size, 0, none⟩) [x, y] := fun _ =>
  ⟨w.heap.size, 0, rfl, hG, fun j hj => by
    rw [cell_of_row _ _ _ _ _ _ (heap_alloc_new w (.cells #[.bool x, .bool y] 4))]
    match j, hj with
    | 0, _ => rfl
    | 1, _ => rfl⟩
end Dk

section
variable {w0 w : World} {X : Nat → Prop} {p : Nat} {s : Dk.S}
theorem write_calm {g : Nat} {l : List UInt8} {c : Nat} {i : Int} (h : Dk.Ready w0 X w p s g l) (hl5 : l.length = 512) (h1 : s.has i = true) (h2 : s.down = false) (h3 : s.fused = false) (hw : s.wait.length < 100000) (hl : 0 ≤ s.left) (hl2 : s.left ≤ 9223372036854775807) :
    Calls Try.prog 16 #[.pointer (some ⟨p, 0, none⟩), .int .i64 i, .slice (some ⟨g, 0, none⟩) 512 c] w fun e w' => e = .returned (.int .i64 0) ∧ Hid (Dk.Ready w0 X w' p (s.put i l) g l) ∧ Hid (Dk.Same X w w') := by
  have := write_live (c := c) i h hl5 hw hl hl2
  rwa [Dk.wcode_calm h1 h2 h3, Dk.write_calm_eq h1 h2 h3 hl5] at this
theorem flush_calm (h : Dk.Live w0 X w p s) (h2 : s.down = false) (h3 : s.fused = false) (hw : s.wait.length < 100000) (hl : 0 ≤ s.left) (hl2 : s.left ≤ 9223372036854775807) :
    Calls Try.prog 23 #[.pointer (some ⟨p, 0, none⟩)] w fun e w' => e = .returned (.int .i64 0) ∧ Hid (Dk.Live w0 X w' p s.done) ∧ Hid (Dk.Same X w w') := by
  have := flush_live h hw hl hl2
  rwa [Dk.fcode_calm h2 h3, Dk.flush_calm_eq h2 h3] at this
end

theorem full_lit {w0 w : World} {X : Nat → Prop} {p : Nat} {s : Dk.S} (l : List UInt8) {W : World} {n c : Nat} {fr : Nat × Nat} (h : Dk.Live w0 X w p s) (hW : W = w.alloc (.cells (Dk.cells8 l).toArray 5 fr)) (hn : n = l.length) (hl : l.length ≤ 9223372036854775807) :
    Calls Try.prog 15 #[.slice (some ⟨w.heap.size, 0, none⟩) n c] W fun e w' => e = .returned (.slice (some ⟨w.heap.size + 1, 0, none⟩) 512 512) ∧ Hid (Dk.Ready w0 X w' p s (w.heap.size + 1) (Dk.full l)) ∧ Hid (Dk.Same X w w') := by
  subst hW
  subst hn
  have hs : (w.alloc (.cells (Dk.cells8 l).toArray 5 fr)).heap.size = w.heap.size + 1 := by simp
  have := full_live (c := c) (h.alloc (.cells (Dk.cells8 l).toArray 5 fr)) (Dk.bts_mark w l fr) hl
  rw [hs] at this
  refine this.mono fun e w' ⟨he, HQ, HS⟩ => ⟨he, HQ, ?_⟩
  exact (h.below ((Below.refl _ _).alloc (Nat.le_refl _) _)).2.trans HS.out
theorem full_one {w0 w : World} {X : Nat → Prop} {p : Nat} {s : Dk.S} {x : Int} {c : Nat} {fr : Nat × Nat} (h : Dk.Live w0 X w p s) (hx : 0 ≤ x ∧ x < 256) :
    Calls Try.prog 15 #[.slice (some ⟨w.heap.size, 0, none⟩) 1 c] (w.alloc (.cells #[.int .u8 x] 5 fr)) fun e w' => e = .returned (.slice (some ⟨w.heap.size + 1, 0, none⟩) 512 512) ∧ Hid (Dk.Ready w0 X w' p s (w.heap.size + 1) (Dk.full [UInt8.ofNat x.toNat])) ∧ Hid (Dk.Same X w w') := by
  refine full_lit (fr := fr) [UInt8.ofNat x.toNat] h ?_ rfl (by simp)
  have : Dk.cells8 [UInt8.ofNat x.toNat] = [.int .u8 x] := by
    simp only [Dk.cells8, Dk.cell8, List.map_cons, List.map_nil]
    rw [UInt8.toNat_ofNat', show x.toNat % 2 ^ 8 = x.toNat by omega, Int.toNat_of_nonneg hx.1]
  rw [this]
theorem restart_lit {w0 w : World} {X : Nat → Prop} {p : Nat} {s : Dk.S} (m : List Bool) {W : World} {n c : Nat} (h : Dk.Live w0 X w p s) (hW : W = w.alloc (.cells (m.map Value.bool).toArray 4)) (hn : n = m.length) (hw : s.wait.length < 100000) :
    Calls Try.prog 19 #[.pointer (some ⟨p, 0, none⟩), .slice (some ⟨w.heap.size, 0, none⟩) n c] W fun e w' => e = .returned noResult ∧ Hid (Dk.Live w0 X w' p (s.restart m)) ∧ Hid (Dk.Same X w w') := by
  subst hW
  subst hn
  have hB : Dk.Bls (w.alloc (.cells (m.map Value.bool).toArray 4)) (fun k => k < w0.heap.size ∨ (X k ∨ k = w.heap.size)) (some ⟨w.heap.size, 0, none⟩) m := fun _ =>
    ⟨w.heap.size, 0, rfl, .inr (.inr rfl), fun j hj => by
      rw [Nat.zero_add, cell_of_row _ _ j _ _ _ (heap_alloc_new w _), List.getElem?_toArray, List.getElem?_map, List.getElem?_eq_getElem hj]
      rfl⟩
  have hb := (Below.refl w.heap.size w).alloc (Nat.le_refl _) (.cells (m.map Value.bool).toArray 4)
  refine (restart_live (c := c) (h.more hb (by simp)) hB hw).mono fun e w' ⟨he, HL, HS⟩ => ⟨he, HL.out.fewer (fun k hk => .inl hk), (h.below hb).2.trans (fun k hk => HS.out k (.inl hk))⟩
set_option maxHeartbeats 400000 in
theorem awake_any (w : World) : Calls Try.prog 8 #[] w fun e w' => e = .returned (.bool true) ∧ Below w.heap.size w w' := by
  have hcv := Dk.conv_lit
  go_enter Try.func8, Try.ntmps8
  go_wp2_with (first
    | (go_at_call 9; refine (new_live 2 _ (by omega) (by omega)).mono ?_; rintro e w1 ⟨rfl, HL⟩)
    | (go_at_call 15; refine (full_one HL.out (by decide)).mono ?_; rintro e w' ⟨rfl, HQ, HS⟩; clear HS HL)
    | (go_at_call 16; refine (write_calm HQ.out (Dk.length_full _) (by rfl) (by rfl) (by rfl) (by decide) (by decide) (by decide)).mono ?_; rintro e w' ⟨rfl, HQ', HS⟩; have HL := Lib.hid (HQ'.out.1.fewer (Y := fun _ => False) (fun k hk => hk.elim)); clear HQ HS HQ')
    | (go_at_call 23; refine (flush_calm HL.out (by rfl) (by rfl) (by decide) (by decide) (by decide)).mono ?_; rintro e w' ⟨rfl, HL', HS⟩; clear HL HS; have HL := HL'; clear HL'))
  go_at_call 19
  refine (restart_lit [false, true] HL.out rfl rfl (by decide)).mono ?_
  rintro e w2 ⟨rfl, HL2, HS2⟩
  have HL3 : Hid (Dk.Live w _ w2 _ Dk.awakeS) := HL2
  clear HL HL2 HS2
  go_wp2_with (fail)
  go_at_call 22
  refine (read_live 0 HL3.out (by rfl) (by rfl)).mono ?_
  rintro e w3 ⟨rfl, HL4, HR3, HS3⟩
  go_wp2_with (fail)
  go_at_call 22
  refine (read_live 1 HL4.out (by rfl) (by rfl)).mono ?_
  rintro e w4 ⟨rfl, HL5, HR4, HS4⟩
  have HR5 : Hid (Dk.Row w4 w2.heap.size 75 (Dk.awakeS.get 0)) := HR3.out.kept (HS4.out _ (.inr rfl))
  rw [Dk.awake_get0] at HR5
  rw [Dk.awake_get1] at HR4
  have k1 := HR5.out.cell_full 5 (by omega)
  have k2 := HR4.out.cell_full 511 (by omega)
  have hbl := HL5.out.bl
  clear HL3 HL4 HR3 HS3 HL5 HR4 HS4 HR5
  go_wp2_with (fail)
  go_ret
  exact ⟨rfl, hbl⟩
end Go.Proofs.Ytngpdjkeoodigaa
