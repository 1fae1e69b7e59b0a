/- The laws' own test, 'awake'. -/
import Derived.Test.YtogkaoiiddhdbaaLvl
import Derived.Lib.SlBytesConst
namespace Go.Proofs.Ytogkaoiiddhdbaa
open Go.RowKit

namespace Wl
theorem Good.append0 {n : Nat} {t : L} {b : List UInt8} (h : Good n t) (hf : t.d.fused = false) (hb : ¬ 8192 < b.length) (hr : ¬ t.room < (need b.length : Int)) :
    t.acode b = 0 ∧ Good n (t.append b) ∧ (t.append b).rs = t.rs ++ [b] ∧ (t.append b).g = t.g ∧ (t.append b).d.fused = false ∧ (t.append b).room = t.room - need b.length := by
  rcases append_fits h hb hr with ⟨h1, h2, h3, h4, h5, h6⟩ | ⟨_, h2, _⟩
  · exact ⟨h1, h2, h3, h4, by rw [h5]; exact hf, h6⟩
  · rw [hf] at h2; cases h2
def aw0 : L := opened (Dk.S.new (8 : Int))
def aw1 : L := aw0.append (nul 492)
def aw2 : L := aw1.append [97, 98]
theorem aw_facts : Good 8 aw0 ∧ aw0.acode (nul 492) = 0 ∧ Good 8 aw1 ∧ aw1.acode (nul 492) = 6 ∧ aw1.append (nul 492) = aw1 ∧ aw1.acode [97, 98] = 0 ∧ Good 8 aw2 ∧ aw2.rs = [nul 492, [97, 98]] ∧ aw2.room = 0 ∧ aw2.g = 1 := by
  obtain ⟨_, _, _, h1, h2, h3, h4⟩ := open_new 8 (by omega)
  have hl : (nul 492).length = 492 := length_nul 492
  have hnd : need 492 = 2 := by unfold need; omega
  have hnd2 : need ([97, 98] : List UInt8).length = 1 := rfl
  have e0 : aw0 = opened (Dk.S.new ((8 : Nat) : Int)) := rfl
  have h5 : aw0.room = 3 := by rw [e0, h1.rm, h2]; rfl
  obtain ⟨a1, a2, a3, a4, a5, a6⟩ := h1.append0 (b := nul 492) h4 (by rw [hl]; omega) (by rw [← e0, h5, hl, hnd]; omega)
  have e1 : aw1 = aw0.append (nul 492) := rfl
  have e2 : aw2 = aw1.append [97, 98] := rfl
  rw [← e0] at a1 a2 a3 a4 a5 a6 h1 h2 h3
  rw [← e1] at a2 a3 a4 a5 a6
  have h6 : aw1.room = 1 := by
    rw [hl, hnd, h5] at a6
    omega
  obtain ⟨b1, b2⟩ := append_full (t := aw1) (b := nul 492) a2.op (by rw [hl]; omega) (by rw [h6, hl, hnd]; omega)
  obtain ⟨c1, c2, c3, c4, c5, c6⟩ := Good.append0 (t := aw1) (b := [97, 98]) a2 a5 (by simp) (by rw [h6, hnd2]; omega)
  rw [← e2] at c2 c3 c4 c6
  refine ⟨h1, a1, a2, b1, b2, c1, c2, ?_, ?_, ?_⟩
  · rw [c3, a3, h2]
    rfl
  · rw [c6, h6, hnd2]
    omega
  · rw [c4, a4, h3]
end Wl
theorem Wl.run_make492 (w : World) : (Instr.makeSlice 40 (.int .i64 492) (.int .i64 492)).run Try.prog w = .ok (.slice (some ⟨w.heap.size, 0, none⟩) 492 492) (w.alloc (.cells (Dk.cells8 (Wl.nul 492)).toArray 5)) := by
  obtain ⟨i0, hi0, hz0, hz1, hz2⟩ := info_parts Dk.u8_info
  have := run_make_row (P := Try.prog) 40 5 i0 (.int .u8 0) Try.underlying40 hi0 hz0 hz1 rfl .i64 .i64 492 (by rw [hz2]; omega) (by omega) w
  rw [Dk.zeros_made] at this
  exact this
/-- []byte of a constant. -/
theorem Wl.conv_lit (w : World) (C : Array Value) (n c : Nat) : (convert 40 40 (.slice (some ⟨w.heap.size, 0, none⟩) n c)).run Try.prog (w.alloc (.cells C 5)) = .ok (.slice (some ⟨w.heap.size, 0, none⟩) n c) (w.alloc (.cells C 5 (C.size, C.size + 1))) :=
  Lib.run_convert_bytes_const (P := Try.prog) w 40 5 C n c Try.underlying40 Try.underlying5
/-- Append of 492 noughts that were just made. -/
theorem append_nul {w0 w : World} {X : Nat → Prop} {q p : Nat} {t : Wl.L} (h : Wl.LiveL w0 X w q p t) (hf : Wl.Fit t) :
    Calls Try.prog 19 #[.pointer (some ⟨q, 0, none⟩), .slice (some ⟨w.heap.size, 0, none⟩) 492 492] (w.alloc (.cells (Dk.cells8 (Wl.nul 492)).toArray 5)) fun e w' => e = .returned (.int .i64 (t.acode (Wl.nul 492))) ∧ Hid (Wl.LiveL w0 X w' q p (t.append (Wl.nul 492))) ∧ Hid (Dk.Same X w w') := by
  have hb := (Below.refl w.heap.size w).alloc (Nat.le_refl _) (.cells (Dk.cells8 (Wl.nul 492)).toArray 5)
  have hr : Dk.Row (w.alloc (.cells (Dk.cells8 (Wl.nul 492)).toArray 5)) w.heap.size 5 (Wl.nul 492) := heap_alloc_new w _
  have hl := Wl.length_nul 492
  refine (append_live (h.more hb) hf (Wl.Bts.mono hr.bts (fun k hk => .inr (.inr (by simp; omega)))) (by simp) (by omega) (by omega) hl.symm).mono fun e w' ⟨h1, h2, h3⟩ => ⟨h1, h2.out.fewer (fun k hk => .inl hk), (h.below hb).2.trans (fun k hk => h3.out k (.inl hk))⟩
theorem Wl.ab_cells : (#[.int .u8 97, .int .u8 98] : Array Value) = (Dk.cells8 [97, 98]).toArray := by kernel_rfl
theorem Wl.bts_mark (w : World) (l : List UInt8) (fr : Nat × Nat) : Dk.Bts (w.alloc (.cells (Dk.cells8 l).toArray 5 fr)) (· = w.heap.size) (some ⟨w.heap.size, 0, none⟩) l := fun _ =>
  ⟨w.heap.size, 0, rfl, rfl, fun j hj => by
    rw [Nat.zero_add, cell_of_row _ _ j _ _ _ (heap_alloc_new w _), List.getElem?_toArray, Dk.get_cells8 l j hj]⟩
/-- Append of the text ab. -/
theorem append_ab {w0 w : World} {X : Nat → Prop} {q p : Nat} {t : Wl.L} (h : Wl.LiveL w0 X w q p t) (hf : Wl.Fit t) :
    Calls Try.prog 19 #[.pointer (some ⟨q, 0, none⟩), .slice (some ⟨w.heap.size, 0, none⟩) 2 2] (w.alloc (.cells #[.int .u8 97, .int .u8 98] 5 (2, 3))) fun e w' => e = .returned (.int .i64 (t.acode [97, 98])) ∧ Hid (Wl.LiveL w0 X w' q p (t.append [97, 98])) ∧ Hid (Dk.Same X w w') := by
  rw [Wl.ab_cells]
  have hb := (Below.refl w.heap.size w).alloc (Nat.le_refl _) (.cells (Dk.cells8 [97, 98]).toArray 5 (2, 3))
  refine (append_live (h.more hb) hf (Wl.Bts.mono (Wl.bts_mark w [97, 98] (2, 3)) (fun k hk => .inr (.inr (by simp; omega)))) (by simp) (by simp) (by simp) rfl).mono fun e w' ⟨h1, h2, h3⟩ => ⟨h1, h2.out.fewer (fun k hk => .inl hk), (h.below hb).2.trans (fun k hk => h3.out k (.inl hk))⟩
theorem awake_any (w : World) : Calls Try.prog 10 #[] w fun e w' => e = .returned (.bool true) ∧ Below w.heap.size w w' := by
  obtain ⟨f1, f2, f3, f4, f5, f6, f7, f8, f9, f10⟩ := Wl.aw_facts
  obtain ⟨n1, n2, n3, _, _, _, _⟩ := Wl.open_new 8 (by omega)
  have HOP : Hid (∀ w0 X w1 p, Dk.Live w0 X w1 p (Dk.S.new 8) → Calls Try.prog 38 #[.pointer (some ⟨p, 0, none⟩)] w1 fun e w' => Wl.OpenL w0 X w1 p Wl.aw0 e w') := fun w0 X w1 p h => by
    have e : ((8 : Nat) : Int) = 8 := rfl
    rw [e] at n1 n2 n3
    refine open_live h ⟨by decide, by decide, by decide, by decide, by decide⟩ rfl (by rw [n1]; omega) ?_
    rw [n1, n2]
    exact n3
  have F1 := Lib.hid (f1.fits (by omega))
  have F3 := Lib.hid (f3.fits (by omega))
  have F7 := Lib.hid (f7.fits (by omega))
  have H2 := Lib.hid f2
  have H4 := Lib.hid f4
  have H5 := Lib.hid f5
  have H6 := Lib.hid f6
  have H8 := Lib.hid f8
  have H9 := Lib.hid f9
  have H10 := Lib.hid f10
  clear f1 f2 f3 f4 f5 f6 f7 f8 f9 f10 n1 n2 n3
  have hmk := Wl.run_make492
  go_enter Try.func10, Try.ntmps10
  go_wp2_with (first
    | (go_at_call 15; refine (new_live 8 _ (by omega) (by omega)).mono ?_; rintro e w1 ⟨rfl, HL⟩)
    | (go_at_call 38; refine (HOP.out _ _ _ _ HL.out).mono ?_; rintro e w2 ⟨q, rfl, HL2, HS2⟩))
  go_at_call 19
  refine (append_nul HL2.out F1.out).mono ?_
  rw [H2.out]
  rintro e w3 ⟨rfl, HL3', hs3⟩
  have HL3 : Hid (Wl.LiveL w _ w3 q _ Wl.aw1) := HL3'
  clear HL3' HL2
  go_wp2_with (fail)
  go_at_call 19
  refine (append_nul HL3.out F3.out).mono ?_
  rw [H4.out]
  rintro e w4 ⟨rfl, HL4, hs4⟩
  have HL4' : Hid (Wl.LiveL w _ w4 q _ Wl.aw1) := H5.out ▸ HL4
  clear HL4
  have hcv := Wl.conv_lit
  go_wp2_with (fail)
  go_at_call 19
  refine (append_ab HL4'.out F3.out).mono ?_
  rw [H6.out]
  rintro e w5 ⟨rfl, HL5', hs5⟩
  have HL5 : Hid (Wl.LiveL w _ w5 q _ Wl.aw2) := HL5'
  clear HL5' HL4' hs5
  have HRM : Hid (Calls Try.prog 39 #[.pointer (some ⟨q, 0, none⟩)] w5 fun e w' => e = .returned (.int .i64 0) ∧ w5 = w') := by
    have := room_live HL5.out
    rw [H9.out] at this
    exact this
  have HGN : Hid (∀ w6, Below w5.heap.size w5 w6 → Calls Try.prog 40 #[.pointer (some ⟨q, 0, none⟩)] w6 fun e w' => e = .returned (.int .u32 1) ∧ w6 = w') := fun w6 hb => by
    have := generation_live (HL5.out.below hb).1
    rw [H10.out] at this
    exact this
  have HRC : Hid (∀ w6, Below w5.heap.size w5 w6 → Calls Try.prog 34 #[.pointer (some ⟨q, 0, none⟩)] w6 fun e w' => Wl.NewR w6 [Wl.nul 492, [97, 98]] e w') := fun w6 hb => by
    have := records_live (HL5.out.below hb).1 F7.out
    rw [H8.out] at this
    exact this
  have hbl5 := HL5.out.bl
  have hbr := Below.refl w5.heap.size w5
  go_wp2_with (go_at_call 39; refine HRM.out.mono ?_; rintro e w6 ⟨rfl, rfl⟩)
  go_at_call 34
  refine (HRC.out _ hbr).mono ?_
  rintro e w6 ⟨A6, c6, rfl, HR6, hb6⟩
  go_wp2_with (fail)
  go_at_call 34
  refine (HRC.out _ hb6).mono ?_
  rintro e w7 ⟨A7, c7, rfl, HR7, hb7⟩
  obtain ⟨b7, off7, A8, c8, e8, _, hc8, hB8, _, _⟩ := HR7.out.prts.at_ 1 (by simp)
  subst e8
  have hcc : (convert 40 9 (.slice A8 2 c8)).run Try.prog w7 = .ok (.string ⟨#[97, 98]⟩) w7 := Dk.conv (l := [97, 98]) hB8 c8
  have hc9 : w7.cell? ⟨b7, off7 + 1, none⟩ = some (.slice A8 2 c8) := hc8
  have hb57 := hb6.trans (hb7.mono hb6.size)
  have hbw7 : Below w.heap.size w w7 := hbl5.trans (hb57.mono hbl5.size)
  clear hB8 hc8 HR6 HR7 HRC H2 H4 H5 H6 H8 hmk hcv HOP
  go_wp2_with (go_at_call 40; refine (HGN.out _ hb57).mono ?_; rintro e w8 ⟨rfl, rfl⟩)
  go_ret
  exact ⟨rfl, hbw7⟩
end Go.Proofs.Ytogkaoiiddhdbaa
