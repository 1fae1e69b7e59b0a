/- The disk's functions as a law calls them: a disk of the law's own, beside blocks X that stay. -/
import Derived.Test.YtogkaoiiddhdbaaRestart
namespace Go.Proofs.Ytogkaoiiddhdbaa
open Go.RowKit

namespace Dk
/-- The disk at p is s; its blocks are none of X and none from ahead of w0; what was ahead of w0 stands. -/
def Live (w0 : World) (X : Nat → Prop) (w : World) (p : Nat) (s : S) : Prop :=
  ∃ F, Dsk w p F s ∧ (∀ k, F k → w0.heap.size ≤ k ∧ ¬ X k) ∧ Below w0.heap.size w0 w ∧ (∀ k, X k → k < w.heap.size)
/-- Beside it block g is the bytes l. -/
def Ready (w0 : World) (X : Nat → Prop) (w : World) (p : Nat) (s : S) (g : Nat) (l : List UInt8) : Prop :=
  Live w0 (fun k => X k ∨ k = g) w p s ∧ Row w g 5 l ∧ w0.heap.size ≤ g
def Same (X : Nat → Prop) (w w' : World) : Prop := ∀ k, X k → w'.heap[k]? = w.heap[k]?
theorem Same.refl (X : Nat → Prop) (w : World) : Same X w w := fun _ _ => rfl
theorem Same.trans {X : Nat → Prop} {w w' w'' : World} (h : Same X w w') (h' : Same X w' w'') : Same X w w'' := fun k hk => (h' k hk).trans (h k hk)
section
variable {w0 w w' : World} {X Y : Nat → Prop} {p : Nat} {s t : S}
theorem Live.bl (h : Live w0 X w p s) : Below w0.heap.size w0 w := by
  obtain ⟨F, _, _, hb, _⟩ := h
  exact hb
/-- Onward by what is new alone. -/
theorem Live.below (h : Live w0 X w p s) (hb : Below w.heap.size w w') : Live w0 X w' p s ∧ Same X w w' := by
  obtain ⟨F, hD, hF, hbw, hX⟩ := h
  exact ⟨⟨F, hD.kept (fun k hk => hb.block k (hD.lt k hk)), hF, hbw.trans (hb.mono hbw.size), fun k hk => Nat.lt_of_lt_of_le (hX k hk) hb.size⟩, fun k hk => hb.block k (hX k hk)⟩
theorem Live.alloc (h : Live w0 X w p s) (o : Obj) : Live w0 X (w.alloc o) p s := (h.below ((Below.refl _ _).alloc (Nat.le_refl _) _)).1
theorem Live.drew (h : Live w0 X w p s) : Live w0 X w.drew p s := (h.below (Below.refl _ _).drew).1
/-- One block more that stays. -/
theorem Live.more (h : Live w0 X w p s) (hb : Below w.heap.size w w') (hlt : w.heap.size < w'.heap.size) : Live w0 (fun k => X k ∨ k = w.heap.size) w' p s := by
  obtain ⟨F, hD, hF, hbw, hX⟩ := h
  refine ⟨F, hD.kept (fun k hk => hb.block k (hD.lt k hk)), fun k hk => ⟨(hF k hk).1, ?_⟩, hbw.trans (hb.mono hbw.size), ?_⟩
  · rintro (h | h)
    · exact (hF k hk).2 h
    · have := hD.lt k hk
      omega
  · rintro k (h | h)
    · exact Nat.lt_of_lt_of_le (hX k h) hb.size
    · omega
theorem Live.fewer (h : Live w0 X w p s) (hY : ∀ k, Y k → X k) : Live w0 Y w p s := by
  obtain ⟨F, hD, hF, hbw, hX⟩ := h
  exact ⟨F, hD, fun k hk => ⟨(hF k hk).1, fun hy => (hF k hk).2 (hY k hy)⟩, hbw, fun k hk => hX k (hY k hk)⟩
theorem Live.gone (h : Live w0 X w p s) (hg : ∀ F, Dsk w p F s → Gone w F w' p t) : Live w0 X w' p t ∧ Same X w w' := by
  obtain ⟨F, hD, hF, hbw, hX⟩ := h
  obtain ⟨F', hD', hfr, hF'⟩ := hg F hD
  refine ⟨⟨F', hD', fun k hk => ?_, hbw.trans (hfr.below hbw.size (fun k hk => (hF k hk).1)), fun k hk => Nat.lt_of_lt_of_le (hX k hk) hfr.size⟩, fun k hk => hfr.block k (hX k hk) (fun hf => (hF k hf).2 hk)⟩
  rcases hF' k hk with h1 | h1
  · exact hF k h1
  · exact ⟨Nat.le_trans hbw.size h1, fun hx => by have := hX k hx; omega⟩
/-- A step that turns blocks of X alone. -/
theorem Live.fr (h : Live w0 X w p s) (hf : Fr X w w') (hX0 : ∀ k, X k → w0.heap.size ≤ k) : Live w0 X w' p s := by
  obtain ⟨F, hD, hF, hbw, hX⟩ := h
  exact ⟨F, hD.fr hf (fun k hk hx => (hF k hk).2 hx), hF, hbw.trans (hf.below hbw.size hX0), fun k hk => Nat.lt_of_lt_of_le (hX k hk) hf.size⟩
theorem Born.live (h : Born w w' p s) (hb : Below w.heap.size w w') : Live w (fun _ => False) w' p s := by
  obtain ⟨F, hD, hF⟩ := h
  exact ⟨F, hD, fun k hk => ⟨hF k hk, fun h => h⟩, hb, fun _ h => h.elim⟩
theorem Live.at (h : Live w0 X w p s) : ∃ a c v, At w p a c v s := by
  obtain ⟨F, ⟨a, c, v, hA, _⟩, _⟩ := h
  exact ⟨a, c, v, hA⟩
theorem Row.size {g e : Nat} {l : List UInt8} (h : Row w g e l) : g < w.heap.size := lt_of_some h
end
end Dk

section
variable {w0 w : World} {X : Nat → Prop} {p : Nat} {s : Dk.S}
theorem write_live {g : Nat} {l : List UInt8} {c : Nat} (i : Int) (h : Dk.Ready w0 X w p s g l) (hl5 : l.length = 512) (hw : s.wait.length < 100000) (hl : 0 ≤ s.left) (hl2 : s.left ≤ 9223372036854775807) :
    Calls Try.prog 29 #[.pointer (some ⟨p, 0, none⟩), .int .i64 i, .slice (some ⟨g, 0, none⟩) 512 c] w fun e w' => e = .returned (.int .i64 (s.wcode i 512)) ∧ Hid (Dk.Ready w0 X w' p (s.write i l) g l) ∧ Hid (Dk.Same X w w') := by
  obtain ⟨hL, hR, hg⟩ := h
  obtain ⟨F, hD, hF, hbw, hX⟩ := id hL
  have := write_any w p F s i (some ⟨g, 0, none⟩) l c (· = g) hD hR.bts (fun k hk hf => (hF k hf).2 (.inr hk)) hw hl hl2
  rw [hl5] at this
  refine this.mono fun e w' ⟨he, HG⟩ => ?_
  obtain ⟨F', hD', hfr, hF'⟩ := HG.out
  have hS : Dk.Same (fun k => X k ∨ k = g) w w' := fun k hk => hfr.block k (hX k hk) (fun hf => (hF k hf).2 hk)
  refine ⟨he, ⟨⟨F', hD', fun k hk => ?_, hbw.trans (hfr.below hbw.size (fun k hk => (hF k hk).1)), fun k hk => Nat.lt_of_lt_of_le (hX k hk) hfr.size⟩, (hS g (.inr rfl)).trans hR, hg⟩, fun k hk => hS k (.inl hk)⟩
  rcases hF' k hk with h1 | h1
  · exact hF k h1
  · exact ⟨Nat.le_trans hbw.size h1, fun hx => by have := hX k hx; omega⟩
/-- A write of no bytes at all. -/
theorem write_nil (i : Int) (h : Dk.Live w0 X w p s) (hw : s.wait.length < 100000) (hl : 0 ≤ s.left) (hl2 : s.left ≤ 9223372036854775807) :
    Calls Try.prog 29 #[.pointer (some ⟨p, 0, none⟩), .int .i64 i, .slice none 0 0] w fun e w' => e = .returned (.int .i64 (s.wcode i 0)) ∧ Hid (Dk.Live w0 X w' p s) ∧ Hid (Dk.Same X w w') := by
  obtain ⟨F, hD, hF, hbw, hX⟩ := id h
  have := write_any w p F s i none [] 0 (fun _ => False) hD (fun h => by simp at h) (fun k hk => hk.elim) hw hl hl2
  refine this.mono fun e w' ⟨he, HG⟩ => ⟨he, ?_⟩
  have e : s.write i [] = s := by unfold Dk.S.write; split <;> simp
  rw [e] at HG
  obtain ⟨F', hD', hfr, hF'⟩ := HG.out
  refine ⟨⟨F', hD', fun k hk => ?_, hbw.trans (hfr.below hbw.size (fun k hk => (hF k hk).1)), fun k hk => Nat.lt_of_lt_of_le (hX k hk) hfr.size⟩, fun k hk => hfr.block k (hX k hk) (fun hf => (hF k hf).2 hk)⟩
  rcases hF' k hk with h1 | h1
  · exact hF k h1
  · exact ⟨Nat.le_trans hbw.size h1, fun hx => by have := hX k hx; omega⟩
theorem flush_live (h : Dk.Live w0 X w p s) (hw : s.wait.length < 100000) (hl : 0 ≤ s.left) (hl2 : s.left ≤ 9223372036854775807) :
    Calls Try.prog 32 #[.pointer (some ⟨p, 0, none⟩)] w fun e w' => e = .returned (.int .i64 s.fcode) ∧ Hid (Dk.Live w0 X w' p s.flush) ∧ Hid (Dk.Same X w w') := by
  obtain ⟨F, hD, hF, hbw, hX⟩ := id h
  refine (flush_any w p F s hD hw hl hl2).mono fun e w' ⟨he, HG⟩ => ⟨he, ?_⟩
  obtain ⟨F', hD', hfr, hF'⟩ := HG.out
  refine ⟨⟨F', hD', fun k hk => ?_, hbw.trans (hfr.below hbw.size (fun k hk => (hF k hk).1)), fun k hk => Nat.lt_of_lt_of_le (hX k hk) hfr.size⟩, fun k hk => hfr.block k (hX k hk) (fun hf => (hF k hf).2 hk)⟩
  rcases hF' k hk with h1 | h1
  · exact hF k h1
  · exact ⟨Nat.le_trans hbw.size h1, fun hx => by have := hX k hx; omega⟩
/-- keep lies ahead of w0, or in X. -/
theorem restart_live {A : Option Addr} {m : List Bool} {c : Nat} (h : Dk.Live w0 X w p s) (hb : Dk.Bls w (fun k => k < w0.heap.size ∨ X k) A m) (hw : s.wait.length < 100000) :
    Calls Try.prog 37 #[.pointer (some ⟨p, 0, none⟩), .slice A m.length c] w fun e w' => e = .returned noResult ∧ Hid (Dk.Live w0 X w' p (s.restart m)) ∧ Hid (Dk.Same X w w') := by
  obtain ⟨F, hD, hF, hbw, hX⟩ := id h
  refine (restart_any w p F s A m c _ hD hb (fun k hk hf => by
    have := hF k hf
    rcases hk with hk | hk
    · omega
    · exact this.2 hk) hw).mono fun e w' ⟨he, HG⟩ => ⟨he, ?_⟩
  obtain ⟨F', hD', hfr, hF'⟩ := HG.out
  refine ⟨⟨F', hD', fun k hk => ?_, hbw.trans (hfr.below hbw.size (fun k hk => (hF k hk).1)), fun k hk => Nat.lt_of_lt_of_le (hX k hk) hfr.size⟩, fun k hk => hfr.block k (hX k hk) (fun hf => (hF k hf).2 hk)⟩
  rcases hF' k hk with h1 | h1
  · exact hF k h1
  · exact ⟨Nat.le_trans hbw.size h1, fun hx => by have := hX k hx; omega⟩
theorem cut_live (h : Dk.Live w0 X w p s) :
    Calls Try.prog 36 #[.pointer (some ⟨p, 0, none⟩)] w fun e w' => e = .returned noResult ∧ Hid (Dk.Live w0 X w' p { s with down := true }) ∧ Hid (Dk.Same X w w') := by
  obtain ⟨F, ⟨a, c, v, hA, rfl⟩, hF, hbw, hX⟩ := id h
  refine (cut_any w p a c v s hA).mono fun e w' ⟨he, H1, hfr⟩ => ⟨he, ?_⟩
  exact ⟨⟨_, ⟨a, c, v, H1.out, rfl⟩, hF, hbw.trans (hfr.below hbw.size (fun k hk => (hF k hk).1)), fun k hk => Nat.lt_of_lt_of_le (hX k hk) hfr.size⟩, fun k hk => hfr.block k (hX k hk) (fun hf => (hF k hf).2 hk)⟩
theorem fuse_live (k : Int) (h : Dk.Live w0 X w p s) :
    Calls Try.prog 26 #[.pointer (some ⟨p, 0, none⟩), .int .i64 k] w fun e w' => e = .returned (.int .i64 (if k < 0 then 1 else if s.down = true then 3 else 0)) ∧
      Hid (Dk.Live w0 X w' p (if k < 0 then s else if s.down = true then s else { s with fused := true, left := k })) ∧ Hid (Dk.Same X w w') := by
  obtain ⟨F, ⟨a, c, v, hA, rfl⟩, hF, hbw, hX⟩ := id h
  refine (fuse_any w p a c v s k hA).mono fun e w' ⟨he, H1, hfr⟩ => ⟨he, ?_⟩
  exact ⟨⟨_, ⟨a, c, v, H1.out, rfl⟩, hF, hbw.trans (hfr.below hbw.size (fun k hk => (hF k hk).1)), fun k hk => Nat.lt_of_lt_of_le (hX k hk) hfr.size⟩, fun k hk => hfr.block k (hX k hk) (fun hf => (hF k hf).2 hk)⟩
theorem down_live (h : Dk.Live w0 X w p s) : Calls Try.prog 81 #[.pointer (some ⟨p, 0, none⟩)] w fun e w' => e = .returned (.bool s.down) ∧ w = w' := by
  obtain ⟨a, c, v, hA⟩ := h.at
  exact down_any w p a c v s hA
theorem size_live (h : Dk.Live w0 X w p s) : Calls Try.prog 48 #[.pointer (some ⟨p, 0, none⟩)] w fun e w' => e = .returned (.int .i64 s.n) ∧ w = w' := by
  obtain ⟨a, c, v, hA⟩ := h.at
  exact size_any w p a c v s hA
theorem waiting_live (h : Dk.Live w0 X w p s) : Calls Try.prog 82 #[.pointer (some ⟨p, 0, none⟩)] w fun e w' => e = .returned (.int .i64 (s.wait.length : Int)) ∧ w = w' := by
  obtain ⟨a, c, v, hA⟩ := h.at
  exact waiting_any w p a c v s hA
theorem read_live (i : Int) (h : Dk.Live w0 X w p s) (h1 : s.has i = true) (h2 : s.down = false) :
    Calls Try.prog 41 #[.pointer (some ⟨p, 0, none⟩), .int .i64 i] w fun e w' => e = .returned (.tuple #[.slice (some ⟨w.heap.size, 0, none⟩) 512 512, .int .i64 0]) ∧ Hid (Dk.Live w0 (fun k => X k ∨ k = w.heap.size) w' p s) ∧ Hid (Dk.Row w' w.heap.size 120 (s.get i)) ∧ Hid (Dk.Same X w w') := by
  obtain ⟨F, hD, hF, hbw, hX⟩ := id h
  exact (read_yes w p F s i hD h1 h2).mono fun e w' ⟨he, HR, hb⟩ => ⟨he, h.more hb HR.out.lt, HR, (h.below hb).2⟩
theorem read_dead (i : Int) (h : Dk.Live w0 X w p s) (hn : s.has i = false ∨ s.down = true) :
    Calls Try.prog 41 #[.pointer (some ⟨p, 0, none⟩), .int .i64 i] w fun e w' => e = .returned (.tuple #[.slice none 0 0, .int .i64 (if s.has i = false then 1 else 3)]) ∧ w = w' := by
  obtain ⟨F, hD, hF, hbw, hX⟩ := id h
  exact read_no w p F s i hD hn
theorem new_live (n : Int) (w : World) (h : 1 ≤ n) (h' : n ≤ 4096) :
    Calls Try.prog 15 #[.int .i64 n] w fun e w' => e = .returned (.tuple #[.pointer (some ⟨w.heap.size + 1 + 1, 0, none⟩), .int .i64 0]) ∧ Hid (Dk.Live w (fun _ => False) w' (w.heap.size + 1 + 1) (Dk.S.new n)) :=
  (new_any n w h h').mono fun _ _ ⟨he, HB, hb⟩ => ⟨he, HB.out.live hb⟩
end
namespace Dk
theorem bts_lit (w : World) (l : List UInt8) : Bts (w.alloc (.cells (cells8 l).toArray 5)) (· = w.heap.size) (some ⟨w.heap.size, 0, none⟩) l :=
  Row.bts (e := 5) (heap_alloc_new w _)
end Dk
end Go.Proofs.Ytogkaoiiddhdbaa
