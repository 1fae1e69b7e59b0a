/- What the laws over made disks need besides. -/
import Derived.Test.YtngpdjkeoodigaaSecs
namespace Go.Proofs.Ytngpdjkeoodigaa
open Go.RowKit

namespace Dk
theorem Acts.imp {w : World} {G G' : Nat → Prop} {A : Option Addr} {l : List ActD} (h : Acts w G A l) (hG : ∀ k, G k → G' k) : Acts w G' A l := fun hl => by
  obtain ⟨b, off, e, hB, hc⟩ := h hl
  refine ⟨b, off, e, hG b hB, fun j hj => ?_⟩
  obtain ⟨Ad, Ak, cd, ck, h⟩ := hc j hj
  refine ⟨Ad, Ak, cd, ck, h.c0, h.c1, h.c2, h.c3, h.c4, fun hl => ?_, h.hk.imp hG, h.wi, h.wn, h.ld, h.lk, h.nd, h.nk, h.dc, h.kc⟩
  obtain ⟨b, off, e, hB, hc⟩ := h.hd hl
  exact ⟨b, off, e, hG b hB, hc⟩
theorem Bls.below {w w' : World} {A : Option Addr} {m : List Bool} (h : Bls w (· < w.heap.size) A m) (hb : Below w.heap.size w w') : Bls w' (· < w.heap.size) A m := h.kept (fun k hk => hb.block k hk)
theorem Live.moreg {w0 w w' : World} {X : Nat → Prop} {p g : Nat} {s : S} (h : Live w0 X w p s) (hb : Below w.heap.size w w') (hg : w.heap.size ≤ g) (hlt : g < w'.heap.size) : Live w0 (fun k => X k ∨ k = g) w' p s := by
  obtain ⟨F, hD, hF, hbw, hX⟩ := h
  refine ⟨F, hD.kept (fun k hk => hb.block k (hD.lt k hk)), fun k hk => ⟨(hF k hk).1, ?_⟩, hbw.trans (hb.mono hbw.size), ?_⟩
  · rintro (h | h)
    · exact (hF k hk).2 h
    · have := hD.lt k hk
      omega
  · rintro k (h | h)
    · exact Nat.lt_of_lt_of_le (hX k h) hb.size
    · omega
theorem write_down_eq {s : S} (i : Int) (l : List UInt8) (h : s.down = true) : s.write i l = s := by
  unfold S.write
  rw [if_pos h]
  split
  · rfl
  · split <;> rfl
theorem wcode_down {s : S} {i : Int} (h1 : s.has i = true) (h : s.down = true) : s.wcode i 512 = 3 := by
  unfold S.wcode; rw [if_neg (by simp [h1]), if_neg (by omega), if_pos h]
theorem Calm.wait0 {s : S} (h : Calm 0 s) : s.wait = [] := List.eq_nil_of_length_eq_zero (Nat.le_zero.1 h.wk)
theorem secs_congr {s t : S} {k : Nat} (h : ∀ i, s.get i = t.get i) : secs s k = secs t k := by simp [secs, h]
theorem get_restart0 {s : S} (h : s.wait = []) (m : List Bool) (k : Int) : (({ s with down := true } : S).restart m).get k = s.get k := by
  simp [S.get, S.restart, h, kept, doneOver, lastW, lastFrom]
theorem Calm.cut {s : S} (h : Calm 0 s) (m : List Bool) : Calm 0 (({ s with down := true } : S).restart m) := ⟨h.n6, rfl, rfl, rfl, by simp [S.restart]⟩
theorem Txs.lt' {w : World} {base g n cap : Nat} {l : List (List UInt8)} (h : Txs w base (.slice (some ⟨g, 0, none⟩) n cap) l) : g < w.heap.size := (h.lt g rfl).2
end Dk
section
variable {w0 w : World} {X : Nat → Prop} {p : Nat} {s : Dk.S}
theorem write_down {g : Nat} {l : List UInt8} {c : Nat} {i : Int} (h : Dk.Ready w0 X w p s g l) (hl5 : l.length = 512) (h1 : s.has i = true) (h2 : s.down = true) (hw : s.wait.length < 100000) (hl : 0 ≤ s.left) (hl2 : s.left ≤ 9223372036854775807) :
    Calls Try.prog 16 #[.pointer (some ⟨p, 0, none⟩), .int .i64 i, .slice (some ⟨g, 0, none⟩) 512 c] w fun e w' => e = .returned (.int .i64 3) ∧ Hid (Dk.Ready w0 X w' p s g l) ∧ Hid (Dk.Same X w w') := by
  have := write_live (c := c) i h hl5 hw hl hl2
  rwa [Dk.wcode_down h1 h2, Dk.write_down_eq i l h2] at this
theorem read_down {i : Int} (h : Dk.Live w0 X w p s) (h1 : s.has i = true) (h2 : s.down = true) :
    Calls Try.prog 22 #[.pointer (some ⟨p, 0, none⟩), .int .i64 i] w fun e w' => e = .returned (.tuple #[.slice none 0 0, .int .i64 3]) ∧ w = w' := by
  have := read_dead i h (.inr h2)
  rwa [if_neg (by simp [h1])] at this
end
end Go.Proofs.Ytngpdjkeoodigaa
