/- The statements' own test of a few answers. -/
import Derived.Test.YtonfkonjkgalhaaDoorPlFrm
import Derived.Test.YtonfkonjkgalhaaDoorPlNew
import Derived.Test.YtonfkonjkgalhaaDoorPlOf
import Derived.Test.YtonfkonjkgalhaaDoorPlRrd
namespace Go.Proofs.YtonfkonjkgalhaaDoor
open Go.RowKit Go.WideMaps
set_option linter.unusedVariables false

namespace Pl
def BitsOk (ws : List Nat) (w : World) (e : Ending) (w' : World) : Prop := ∃ b, e = .returned (.tuple #[.slice (some ⟨b, 0, none⟩) ws.length ws.length, .int .i64 0]) ∧ Rw.Blk w' b 63 (cellsN ws) ∧ w.heap.size ≤ b ∧ Below w.heap.size w w'
def P0 : P := ⟨1, 3, ⟨#[65, 66, 46, 67]⟩, [2], [(1, 66)]⟩
def L0 : List S := [(1, 65), (2, 66)]
theorem wf0 (a b : Option Addr) : Wf ⟨P0, a, 1, b, 1⟩ := ⟨show P0.lt.size ≤ _ by decide, show _ ≤ P0.fr by decide, show P0.fr ≤ _ by decide, show _ ≤ P0.la by decide, show P0.la ≤ _ by decide, show P0.ex.length ≤ _ by decide, show P0.bl.length ≤ _ by decide, show P0.ex.length ≤ 1 by decide, show P0.bl.length ≤ 1 by decide, show ∀ s ∈ P0.bl, 0 ≤ s.2 ∧ s.2 ≤ 255 by decide⟩
theorem right0 : right P0 = true := by decide +kernel
theorem sts0 (W : World) : Sts (W.alloc (.cells #[.int .i64 1, .int .u8 65, .int .i64 2, .int .u8 66] 23)) (W.heap.size + 1) (some ⟨W.heap.size, 0, none⟩) L0 := fun _ => ⟨W.heap.size, 0, rfl, Nat.lt_succ_self _, fun j hj => by
  have h := heap_alloc_new W (.cells #[.int .i64 1, .int .u8 65, .int .i64 2, .int .u8 66] 23)
  have : j = 0 ∨ j = 1 := by have : j < 2 := hj; omega
  rcases this with rfl | rfl
  · exact ⟨cell_of_row _ _ 0 _ _ _ h, cell_of_row _ _ 1 _ _ _ h⟩
  · exact ⟨cell_of_row _ _ 2 _ _ _ h, cell_of_row _ _ 3 _ _ _ h⟩⟩
theorem bw0 : Bw [17] 1 (bset P0 L0) := by
  refine ⟨rfl, fun j => ?_, fun n hn => ?_⟩
  · unfold gN
    rcases j with _ | j <;> simp
  · have : ∀ n, n < 64 → on [17] n = bset P0 L0 n := by decide +kernel
    exact this n hn
end Pl
theorem bits_ok (p : Pl.P) (l : List Pl.S) (ws : List Nat) (n cap B base g : Nat) (A : Option Addr) (w : World) (ho : Pl.rowsOk p = true) (hl : Pl.lettersOk p.lt = true) (hm : Pl.MapAt w base g p (Pl.pls p)) (h : Pl.Sts w B A l) (hB : B ≤ w.heap.size) (hll : l.length ≤ 1000000) (hws : ∀ s ∈ l, Pl.WS s)
    (hn : n = l.length) (ha : l.all (Pl.hasS p) = true) (hd : l.Nodup) (hb : Pl.Bw ws (((Pl.all p).length + 63) / 64) (Pl.bset p l)) :
    Calls Tryd.prog 30 #[.pointer (some ⟨g, 0, none⟩), .slice A n cap] w (Pl.BitsOk ws w) := by
  subst hn
  refine (bits_any p l A cap B base g w ho hl hm h hB hll hws).mono fun e w' hr => ?_
  rcases hr with ⟨h1, _⟩ | ⟨_, h2, _⟩ | ⟨_, _, b, ws', rfl, h3, h4, h5, h6⟩
  · rw [ha] at h1; cases h1
  · exact absurd hd h2
  · have e := h3.ext hb (fun _ _ => rfl)
    subst e
    exact ⟨b, by rw [h3.len], h4, h5, h6⟩
set_option maxHeartbeats 2000000 in
set_option maxRecDepth 20000 in
theorem awake_any (w : World) : Calls Tryd.prog 9 #[] w fun e w' => e = .returned (.bool true) ∧ Below w.heap.size w w' := by
  obtain ⟨W1, eW1⟩ : ∃ W1, W1 = (w.alloc (.cells #[.int .i64 2] 3)).alloc (.cells #[.int .i64 1, .int .u8 66] 23) := ⟨_, rfl⟩
  have hb1 : Below w.heap.size w W1 := by rw [eW1]; exact ((Below.refl w.heap.size w).alloc (Nat.le_refl _) _).alloc (by simp) _
  have HB1 := Lib.hid hb1
  have HN : Hid (Calls Tryd.prog 16 #[.agg #[.int .i64 1, .int .i64 3, .string ⟨#[65, 66, 46, 67]⟩, .slice (some ⟨w.heap.size, 0, none⟩) 1 1, .slice (some ⟨w.heap.size + 1, 0, none⟩) 1 1]] W1 (Pl.NewR ⟨Pl.P0, some ⟨w.heap.size, 0, none⟩, 1, some ⟨w.heap.size + 1, 0, none⟩, 1⟩ W1)) := by
    have hz : W1.heap.size = w.heap.size + 2 := by rw [eW1]; simp
    have c2 : W1.heap[w.heap.size + 1]? = some (.cells #[.int .i64 1, .int .u8 66] 23 (0, 0)) := by
      rw [eW1]
      have := heap_alloc_new (w.alloc (.cells #[.int .i64 2] 3)) (.cells #[.int .i64 1, .int .u8 66] 23)
      simpa using this
    have c1 : W1.heap[w.heap.size]? = some (.cells #[.int .i64 2] 3 (0, 0)) := by
      rw [eW1]
      exact (Below.heap_alloc _ _ _ (by simp)).trans (heap_alloc_new w _)
    refine new_right ⟨Pl.P0, some ⟨w.heap.size, 0, none⟩, 1, some ⟨w.heap.size + 1, 0, none⟩, 1⟩ W1.heap.size W1 (Pl.wf0 _ _) ?_ ?_ (Nat.le_refl _) Pl.right0
    · refine fun _ => ⟨w.heap.size, 0, rfl, by omega, fun j hj => ?_⟩
      obtain rfl : j = 0 := by simpa [Pl.P0] using hj
      exact cell_of_row _ _ 0 _ _ _ c1
    · refine fun _ => ⟨w.heap.size + 1, 0, rfl, by omega, fun j hj => ?_⟩
      obtain rfl : j = 0 := by simpa [Pl.P0] using hj
      exact ⟨cell_of_row _ _ 0 _ _ _ c2, cell_of_row _ _ 1 _ _ _ c2⟩
  have HBT : Hid (∀ (base g : Nat) (W : World), Pl.MapAt W base g Pl.P0 (Pl.pls Pl.P0) → Calls Tryd.prog 30 #[.pointer (some ⟨g, 0, none⟩), .slice (some ⟨W.heap.size, 0, none⟩) 2 2] (W.alloc (.cells #[.int .i64 1, .int .u8 65, .int .i64 2, .int .u8 66] 23)) fun e w' => ∃ b, e = .returned (.tuple #[.slice (some ⟨b, 0, none⟩) 1 1, .int .i64 0]) ∧ w'.cell? ⟨b, 0, none⟩ = some (.int .u64 17) ∧ b < w'.heap.size ∧ Below W.heap.size W w') := fun base g W hm => by
    have ba : Below W.heap.size W (W.alloc (.cells #[.int .i64 1, .int .u8 65, .int .i64 2, .int .u8 66] 23)) := (Below.refl _ _).alloc (Nat.le_refl _) _
    refine (bits_ok Pl.P0 Pl.L0 [17] 2 2 (W.heap.size + 1) base g (some ⟨W.heap.size, 0, none⟩) _ (by decide) (by decide +kernel) (hm.below ba) (Pl.sts0 W) (by simp) (by decide) (by intro s hs; simp [Pl.L0] at hs; rcases hs with rfl | rfl <;> (unfold Pl.WS; decide)) rfl (by decide +kernel) (by decide +kernel) (by rw [show ((Pl.all Pl.P0).length + 63) / 64 = 1 by decide +kernel]; exact Pl.bw0)).mono fun e w' h => ?_
    obtain ⟨b, h1, h2, _, h4⟩ := h
    exact ⟨b, h1, (h2.cell 0).trans rfl, h2.lt, ba.trans (h4.mono ba.size)⟩
  have HR : Hid (∀ W, Calls Tryd.prog 11 #[.string ⟨#[49, 50, 70]⟩] W fun e w' => e = .returned (.tuple #[.agg #[.int .i64 12, .int .u8 70], .bool true]) ∧ Below W.heap.size W w') := fun W => read_core _ W (by decide) (by decide) true (by decide +kernel) (12, 70) (by decide +kernel)
  have HT : Hid (∀ W, Calls Tryd.prog 10 #[.agg #[.int .i64 12, .int .u8 70]] W fun e w' => e = .returned (.string ⟨#[49, 50, 70]⟩) ∧ Below W.heap.size W w') := fun W => by
    have := text_any (12, 70) W (by decide) (by decide)
    rwa [show Pl.txt (12, 70) = ⟨#[49, 50, 70]⟩ by decide +kernel] at this
  have HM : Hid (∀ W base g, Pl.MapAt W base g Pl.P0 (Pl.pls Pl.P0) → Calls Tryd.prog 27 #[.pointer (some ⟨g, 0, none⟩), .agg #[.int .i64 2, .int .u8 67]] W fun e w' => e = .returned (.string ⟨#[87, 65, 69]⟩) ∧ Below W.heap.size W w') := fun W base g hm => by
    have := mark_any Pl.P0 (2, 67) base g W (by decide +kernel) hm (by unfold Pl.WS; decide)
    rwa [show Pl.mkS Pl.P0 (2, 67) = ⟨#[87, 65, 69]⟩ by decide +kernel] at this
  have HSt : Hid (∀ W base g, Pl.MapAt W base g Pl.P0 (Pl.pls Pl.P0) → Calls Tryd.prog 20 #[.pointer (some ⟨g, 0, none⟩)] W fun e w' => ∃ A c, e = .returned (.slice A 8 c) ∧ Below W.heap.size W w') := fun W base g hm => by
    refine (seats_any Pl.P0 base g W (by decide) (by decide +kernel) hm).mono fun e w' h => ?_
    obtain ⟨A, c, h1, h2, h3⟩ := h
    rw [show (Pl.seatsOf Pl.P0).length = 8 by decide +kernel] at h1
    exact ⟨A, c, h1, h3⟩
  clear hb1
  go_enter Tryd.func9, Tryd.ntmps9
  go_wp2_with (first
    | (go_at_call 16; rw [← eW1]; refine HN.out.mono ?_; rintro e w2 ⟨g, rfl, hm, hb2⟩; have HM2 := Lib.hid hm; have b02 := HB1.out.trans (hb2.mono HB1.out.size); have HBt := Lib.hid (HBT.out _ g w2 hm); clear hm)
    | (go_at_call 30; refine HBt.out.mono ?_; rintro e w3 ⟨b, rfl, hc3, hl3, hb3⟩; have HM3 := Lib.hid (HM2.out.below hb3); have b03 := b02.trans (hb3.mono b02.size))
    | (go_at_call 11; refine (HR.out _).mono ?_; rintro e w4 ⟨rfl, hb4⟩; have HM4 := Lib.hid (HM3.out.below hb4); have b04 := b03.trans (hb4.mono b03.size); have hc4 := (hb4.cell (p := ⟨b, 0, none⟩) hl3).trans hc3; have hz4 : b < w4.heap.size := Nat.lt_of_lt_of_le hl3 hb4.size; have hc4a : (w4.alloc (.cells #[.int .i64 12, .int .u8 70] 23)).cell? ⟨b, 0, none⟩ = some (.int .u64 17) := (((Below.refl w4.heap.size w4).alloc (Nat.le_refl _) _).cell (p := ⟨b, 0, none⟩) hz4).trans hc4)
    | (go_at_call 27; refine (HM.out _ _ g (HM4.out.below ((Below.refl _ _).alloc (Nat.le_refl _) _))).mono ?_; rintro e w5 ⟨rfl, hb5⟩; have K5 := (Rw.Blk.made w4 23 [.int .i64 12, .int .u8 70]).below' hb5; have b05 := (b04.alloc b04.size _).trans (hb5.mono (by have := b04.size; simp; omega)); have HM5 := Lib.hid ((HM4.out.below ((Below.refl _ _).alloc (Nat.le_refl _) _)).below hb5))
    | (go_at_call 20; refine (HSt.out _ _ g HM5.out).mono ?_; rintro e w6 ⟨A6, c6, rfl, hb6⟩; have K6 := K5.below' hb6; have m0 : w6.cell? ⟨w4.heap.size, 0, none⟩ = some (.int .i64 12) := (K6.cell 0).trans rfl; have m1 : w6.cell? ⟨w4.heap.size, 1, none⟩ = some (.int .u8 70) := (K6.cell 1).trans rfl; have b06 := b05.trans (hb6.mono b05.size))
    | (go_at_call 10; refine (HT.out _).mono ?_; rintro e w7 ⟨rfl, hb7⟩))
  go_ret
  exact ⟨rfl, b06.trans (hb7.mono b06.size)⟩
end Go.Proofs.YtonfkonjkgalhaaDoor
