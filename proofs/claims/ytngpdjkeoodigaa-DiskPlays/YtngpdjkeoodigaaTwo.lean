/- Two disks beside each other. -/
import Derived.Test.YtngpdjkeoodigaaClone
namespace Go.Proofs.Ytngpdjkeoodigaa
open Go.RowKit

namespace Dk
/-- The disk at p is s and that at q is t; they share no block, and neither has one of X. -/
def Two (w0 : World) (X : Nat → Prop) (w : World) (p : Nat) (s : S) (q : Nat) (t : S) : Prop :=
  ∃ G, Live w0 (fun k => X k ∨ G k) w p s ∧ Dsk w q G t ∧ ∀ k, G k → w0.heap.size ≤ k ∧ ¬ X k
section
variable {w0 w w' : World} {X G : Nat → Prop} {p q : Nat} {s s' t : S}
theorem Two.swap (h : Two w0 X w p s q t) : Two w0 X w q t p s := by
  obtain ⟨G, ⟨F, hD, hF, hb, hX⟩, hq, hG⟩ := h
  refine ⟨F, ⟨G, hq, fun k hk => ⟨(hG k hk).1, ?_⟩, hb, ?_⟩, hD, fun k hk => ⟨(hF k hk).1, fun hx => (hF k hk).2 (.inl hx)⟩⟩
  · rintro (h | h)
    · exact (hG k hk).2 h
    · exact (hF k h).2 (.inr hk)
  · rintro k (h | h)
    · exact hX k (.inl h)
    · exact hD.lt k h
theorem Two.live (h : Two w0 X w p s q t) : Live w0 X w p s := by
  obtain ⟨G, hL, _⟩ := h
  exact hL.fewer (fun k hk => .inl hk)
theorem Two.next (hL : Live w0 (fun k => X k ∨ G k) w' p s') (hS : Same (fun k => X k ∨ G k) w w') (hq : Dsk w q G t) (hG : ∀ k, G k → w0.heap.size ≤ k ∧ ¬ X k) : Two w0 X w' p s' q t ∧ Same X w w' :=
  ⟨⟨G, hL, hq.kept (fun k hk => hS k (.inr hk)), hG⟩, fun k hk => hS k (.inl hk)⟩
theorem Two.below (h : Two w0 X w p s q t) (hb : Below w.heap.size w w') : Two w0 X w' p s q t ∧ Same X w w' := by
  obtain ⟨G, hL, hq, hG⟩ := h
  have := hL.below hb
  exact Two.next this.1 this.2 hq hG
theorem Two.moreg {g : Nat} (h : Two w0 X w p s q t) (hb : Below w.heap.size w w') (hg : w.heap.size ≤ g) (hlt : g < w'.heap.size) : Two w0 (fun k => X k ∨ k = g) w' p s q t := by
  obtain ⟨G, hL, hq, hG⟩ := h
  have h1 := hL.moreg hb hg hlt
  refine ⟨G, h1.fewer (fun k hk => ?_), hq.kept (fun k hk => hb.block k (hq.lt k hk)), fun k hk => ⟨(hG k hk).1, ?_⟩⟩
  · rcases hk with (h | h) | h
    · exact .inl (.inl h)
    · exact .inr h
    · exact .inl (.inr h)
  · rintro (h | h)
    · exact (hG k hk).2 h
    · have := hq.lt k hk
      omega
theorem Two.fewer {Y : Nat → Prop} (h : Two w0 X w p s q t) (hY : ∀ k, Y k → X k) : Two w0 Y w p s q t := by
  obtain ⟨G, hL, hq, hG⟩ := h
  exact ⟨G, hL.fewer (fun k hk => hk.imp (hY k) id), hq, fun k hk => ⟨(hG k hk).1, fun hy => (hG k hk).2 (hY k hy)⟩⟩
theorem Two.born (h : Live w0 X w p s) (hB : Born w w' q t) (hb : Below w.heap.size w w') : Two w0 X w' p s q t := by
  obtain ⟨G, hq, hG⟩ := hB
  obtain ⟨F, hD, hF, hbw, hX⟩ := h
  refine ⟨G, ⟨F, hD.kept (fun k hk => hb.block k (hD.lt k hk)), fun k hk => ⟨(hF k hk).1, ?_⟩, hbw.trans (hb.mono hbw.size), ?_⟩, hq, fun k hk => ⟨Nat.le_trans hbw.size (hG k hk), fun hx => ?_⟩⟩
  · rintro (h | h)
    · exact (hF k hk).2 h
    · have := hG k h
      have := hD.lt k hk
      omega
  · rintro k (h | h)
    · exact Nat.lt_of_lt_of_le (hX k h) hb.size
    · exact hq.lt k h
  · have := hX k hx
    have := hG k hk
    omega
end
end Dk
section
variable {w0 w : World} {X : Nat → Prop} {p q : Nat} {s t : Dk.S}
theorem clone_live (h : Dk.Live w0 X w p s) (hw : s.wait.length < 100000) :
    Calls Try.prog 25 #[.pointer (some ⟨p, 0, none⟩)] w fun e w' => e = .returned (.pointer (some ⟨w.heap.size, 0, none⟩)) ∧ Hid (Dk.Two w0 X w' p s w.heap.size s) ∧ Hid (Dk.Same X w w') := by
  obtain ⟨F, hD, hF, hbw, hX⟩ := id h
  exact (clone_any w p F s hD hw).mono fun _ _ ⟨he, HB, hb⟩ => ⟨he, Dk.Two.born h HB.out hb, (h.below hb).2⟩
end
namespace Dk
/-- Beside the two, block g is the bytes l. -/
def Ready2 (w0 : World) (X : Nat → Prop) (w : World) (p : Nat) (s : S) (q : Nat) (t : S) (g : Nat) (l : List UInt8) : Prop :=
  Two w0 (fun k => X k ∨ k = g) w p s q t ∧ Row w g 5 l ∧ w0.heap.size ≤ g
end Dk
section
variable {w0 w : World} {X : Nat → Prop} {p q : Nat} {s t : Dk.S}
theorem full2 {A : Option Addr} {l : List UInt8} {c : Nat} {G : Nat → Prop} (h : Dk.Two w0 X w p s q t) (hb : Dk.Bts w G A l) (hl : l.length ≤ 9223372036854775807) :
    Calls Try.prog 15 #[.slice A l.length c] w fun e w' => e = .returned (.slice (some ⟨w.heap.size, 0, none⟩) 512 512) ∧ Hid (Dk.Ready2 w0 X w' p s q t w.heap.size (Dk.full l)) ∧ Hid (Dk.Same X w w') := by
  refine (full_any A l c w G hb hl).mono fun e w' ⟨he, HR, hbl⟩ => ?_
  exact ⟨he, ⟨h.moreg hbl (Nat.le_refl _) HR.out.lt, HR.out, h.live.bl.size⟩, (h.below hbl).2⟩
/-- Full of a constant, of which only what is new is told. -/
theorem full_new (l : List UInt8) {w W : World} {n c : Nat} {fr : Nat × Nat} (hW : W = w.alloc (.cells (Dk.cells8 l).toArray 5 fr)) (hn : n = l.length) (hl : l.length ≤ 9223372036854775807) :
    Calls Try.prog 15 #[.slice (some ⟨w.heap.size, 0, none⟩) n c] W fun e w' => e = .returned (.slice (some ⟨w.heap.size + 1, 0, none⟩) 512 512) ∧ Hid (Dk.Row w' (w.heap.size + 1) 5 (Dk.full l)) ∧ Below w.heap.size w w' := by
  subst hW
  subst hn
  have hs : (w.alloc (.cells (Dk.cells8 l).toArray 5 fr)).heap.size = w.heap.size + 1 := by simp
  have := full_any _ l c _ _ (Dk.bts_mark w l fr) hl
  rw [hs] at this
  exact this.mono fun _ _ ⟨he, HR, hb⟩ => ⟨he, HR, ((Below.refl _ w).alloc (Nat.le_refl _) _).trans (hb.mono (Nat.le_succ _))⟩
theorem full2_lit (l : List UInt8) {W : World} {n c : Nat} {fr : Nat × Nat} (h : Dk.Two w0 X w p s q t) (hW : W = w.alloc (.cells (Dk.cells8 l).toArray 5 fr)) (hn : n = l.length) (hl : l.length ≤ 9223372036854775807) :
    Calls Try.prog 15 #[.slice (some ⟨w.heap.size, 0, none⟩) n c] W fun e w' => e = .returned (.slice (some ⟨w.heap.size + 1, 0, none⟩) 512 512) ∧ Hid (Dk.Ready2 w0 X w' p s q t (w.heap.size + 1) (Dk.full l)) ∧ Hid (Dk.Same X w w') := by
  subst hW
  subst hn
  have hs : (w.alloc (.cells (Dk.cells8 l).toArray 5 fr)).heap.size = w.heap.size + 1 := by simp
  have hal := h.below ((Below.refl w.heap.size w).alloc (Nat.le_refl _) (.cells (Dk.cells8 l).toArray 5 fr))
  have := full2 (c := c) hal.1 (Dk.bts_mark w l fr) hl
  rw [hs] at this
  exact this.mono fun e w' ⟨he, HQ, HS⟩ => ⟨he, HQ, hal.2.trans HS.out⟩
theorem write2 {g : Nat} {l : List UInt8} {c : Nat} (i : Int) (h : Dk.Ready2 w0 X w p s q t g l) (hl5 : l.length = 512) (hw : s.wait.length < 100000) (hl : 0 ≤ s.left) (hl2 : s.left ≤ 9223372036854775807) :
    Calls Try.prog 16 #[.pointer (some ⟨p, 0, none⟩), .int .i64 i, .slice (some ⟨g, 0, none⟩) 512 c] w fun e w' => e = .returned (.int .i64 (s.wcode i 512)) ∧ Hid (Dk.Two w0 X w' p (s.write i l) q t) ∧ Hid (Dk.Same X w w') := by
  obtain ⟨⟨G, hL, hq, hG⟩, hR, hg⟩ := h
  have hRd : Dk.Ready w0 (fun k => X k ∨ G k) w p s g l := ⟨hL.fewer (fun k hk => by
    rcases hk with (h | h) | h
    · exact .inl (.inl h)
    · exact .inr h
    · exact .inl (.inr h)), hR, hg⟩
  refine (write_live (c := c) i hRd hl5 hw hl hl2).mono fun e w' ⟨he, HQ, HS⟩ => ?_
  have hN := Dk.Two.next (q := q) (t := t) (X := X) (G := G) (HQ.out.1.fewer (fun k hk => .inl hk)) HS.out hq (fun k hk => ⟨(hG k hk).1, fun hx => (hG k hk).2 (.inl hx)⟩)
  exact ⟨he, hN.1, hN.2⟩
theorem flush2 (h : Dk.Two w0 X w p s q t) (hw : s.wait.length < 100000) (hl : 0 ≤ s.left) (hl2 : s.left ≤ 9223372036854775807) :
    Calls Try.prog 23 #[.pointer (some ⟨p, 0, none⟩)] w fun e w' => e = .returned (.int .i64 s.fcode) ∧ Hid (Dk.Two w0 X w' p s.flush q t) ∧ Hid (Dk.Same X w w') := by
  obtain ⟨G, hL, hq, hG⟩ := h
  exact (flush_live hL hw hl hl2).mono fun _ _ ⟨he, HL, HS⟩ => ⟨he, (Dk.Two.next HL.out HS.out hq hG).1, (Dk.Two.next HL.out HS.out hq hG).2⟩
theorem cut2 (h : Dk.Two w0 X w p s q t) :
    Calls Try.prog 18 #[.pointer (some ⟨p, 0, none⟩)] w fun e w' => e = .returned noResult ∧ Hid (Dk.Two w0 X w' p { s with down := true } q t) ∧ Hid (Dk.Same X w w') := by
  obtain ⟨G, hL, hq, hG⟩ := h
  exact (cut_live hL).mono fun _ _ ⟨he, HL, HS⟩ => ⟨he, (Dk.Two.next HL.out HS.out hq hG).1, (Dk.Two.next HL.out HS.out hq hG).2⟩
theorem restart2_nil (h : Dk.Two w0 X w p s q t) (hw : s.wait.length < 100000) :
    Calls Try.prog 19 #[.pointer (some ⟨p, 0, none⟩), .slice none 0 0] w fun e w' => e = .returned noResult ∧ Hid (Dk.Two w0 X w' p (s.restart []) q t) ∧ Hid (Dk.Same X w w') := by
  obtain ⟨G, hL, hq, hG⟩ := h
  exact (restart_live (A := none) (m := []) (c := 0) hL (fun h => by simp at h) hw).mono fun _ _ ⟨he, HL, HS⟩ => ⟨he, (Dk.Two.next HL.out HS.out hq hG).1, (Dk.Two.next HL.out HS.out hq hG).2⟩
theorem restart2_lit (m : List Bool) {W : World} {n c : Nat} (h : Dk.Two w0 X w p s q t) (hW : W = w.alloc (.cells (m.map Value.bool).toArray 4)) (hn : n = m.length) (hw : s.wait.length < 100000) :
    Calls Try.prog 19 #[.pointer (some ⟨p, 0, none⟩), .slice (some ⟨w.heap.size, 0, none⟩) n c] W fun e w' => e = .returned noResult ∧ Hid (Dk.Two w0 X w' p (s.restart m) q t) ∧ Hid (Dk.Same X w w') := by
  obtain ⟨G, hL, hq, hG⟩ := h
  exact (restart_lit m hL hW hn hw).mono fun _ _ ⟨he, HL, HS⟩ => ⟨he, (Dk.Two.next HL.out HS.out hq hG).1, (Dk.Two.next HL.out HS.out hq hG).2⟩
end
namespace Dk
theorem write_get {k : Nat} {s : S} (h : Calm k s) (i : Int) (D : List UInt8) (hD : D.length = 512) (j : Int) : (s.write i D).get j = if (0 ≤ i ∧ i < 6) ∧ j = i then D else s.get j := by
  by_cases hi : 0 ≤ i ∧ i < 6
  · rw [write_calm_eq (has_of hi.1 (by rw [h.n6]; exact hi.2)) h.up h.nf hD]
    by_cases hj : j = i
    · rw [if_pos ⟨hi, hj⟩]
      simp only [S.get, S.put, lastW_snoc]
      rw [if_pos hj.symm]
    · rw [if_neg (fun h => hj h.2)]
      simp only [S.get, S.put, lastW_snoc]
      rw [if_neg (Ne.symm hj)]
  · rw [if_neg (fun h => hi h.1)]
    unfold S.write
    rw [if_pos (hasn_of (by rw [h.n6]; exact hi))]
theorem done_get (s : S) (j : Int) : s.done.get j = s.get j := by
  simp only [S.get, S.done, lastW, lastFrom, doneOver]
  rw [lastFrom_or]
  cases lastFrom j s.wait none <;> rfl
theorem cutdone_get (s : S) (m : List Bool) (j : Int) : (({ s.done with down := true } : S).restart m).get j = s.get j := by
  rw [get_restart0 (s := s.done) rfl m j, done_get]
end Dk
end Go.Proofs.Ytngpdjkeoodigaa
