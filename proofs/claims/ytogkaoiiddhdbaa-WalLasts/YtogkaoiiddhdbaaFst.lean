/- Steps of the laws that append records of their own. -/
import Derived.Test.YtogkaoiiddhdbaaFul
namespace Go.Proofs.Ytogkaoiiddhdbaa
open Go.RowKit

namespace Wl
/-- Record answered new bytes, so many. -/
def RecB (w : World) (z : Nat) (e : Ending) (w' : World) : Prop := ∃ b : List UInt8, b.length = z ∧ e = .returned (.slice (some ⟨w.heap.size + 1, 0, none⟩) z z) ∧ Hid (Dk.Row w' (w.heap.size + 1) 5 b) ∧ Hid (Below w.heap.size w w')
theorem rec_two (w : World) (x y s : Int) (z : Nat) (hx : 0 ≤ x ∧ x < 256) (hy : 0 ≤ y ∧ y < 256) (hz : clampR s = z) :
    Calls Try.prog 17 #[.slice (some ⟨w.heap.size, 0, none⟩) 2 2, .int .i64 s] (w.alloc (.cells #[.int .u8 x, .int .u8 y] 5)) fun e w' => RecB w z e w' := by
  have hc : (#[.int .u8 x, .int .u8 y] : Array Value) = (Dk.cells8 [UInt8.ofNat x.toNat, UInt8.ofNat y.toNat]).toArray := by
    simp only [Dk.cells8, Dk.cell8, List.map_cons, List.map_nil]
    rw [UInt8.toNat_ofNat', UInt8.toNat_ofNat', show x.toNat % 2 ^ 8 = x.toNat by omega, show y.toNat % 2 ^ 8 = y.toNat by omega, Int.toNat_of_nonneg hx.1, Int.toNat_of_nonneg hy.1]
  rw [hc]
  have hr : Dk.Row (w.alloc (.cells (Dk.cells8 [UInt8.ofNat x.toNat, UInt8.ofNat y.toNat]).toArray 5)) w.heap.size 5 [UInt8.ofNat x.toNat, UInt8.ofNat y.toNat] := heap_alloc_new w _
  have hs : (w.alloc (.cells (Dk.cells8 [UInt8.ofNat x.toNat, UInt8.ofNat y.toNat]).toArray 5)).heap.size = w.heap.size + 1 := by simp
  have hb := (Below.refl w.heap.size w).alloc (Nat.le_refl _) (.cells (Dk.cells8 [UInt8.ofNat x.toNat, UInt8.ofNat y.toNat]).toArray 5)
  have := record_any (some ⟨w.heap.size, 0, none⟩) [UInt8.ofNat x.toNat, UInt8.ofNat y.toNat] 2 2 s _ _ hr.bts (by simp) rfl
  rw [hs, hz] at this
  refine this.mono fun e w' ⟨h1, h2, h3⟩ => ⟨_, by rw [length_recL]; exact hz, h1, h2, hb.trans (h3.mono (by omega))⟩
theorem app_step {w0 wr wb : World} {X : Nat → Prop} {q p k z : Nat} {t : L} {b : List UInt8} (h : LiveL w0 X wr q p t) (hf : Fit t) (hb : Below wr.heap.size wr wb) (hk : wr.heap.size ≤ k) (hr : Dk.Row wb k 5 b) (hz : b.length = z) (hz2 : z ≤ 100000) :
    Calls Try.prog 19 #[.pointer (some ⟨q, 0, none⟩), .slice (some ⟨k, 0, none⟩) z z] wb fun e w' => e = .returned (.int .i64 (t.acode b)) ∧ Hid (LiveL w0 X w' q p (t.append b)) ∧ Hid (Dk.Same X wr w') ∧ Hid (Dk.Row w' k 5 b) := by
  have hlt := hr.lt
  refine (append_live (h.more hb) hf (Bts.mono hr.bts (fun j hj => .inr (.inr (by omega)))) (by simp) (by omega) (by omega) hz.symm).mono fun e w' ⟨h1, h2, h3⟩ => ⟨h1, h2.out.fewer (fun j hj => .inl hj), (h.below hb).2.trans (fun j hj => h3.out j (.inl hj)), ?_⟩
  exact hr.kept (h3.out k (.inr ⟨hk, hlt⟩))
theorem OwnT.same {w w' : World} {base : Nat} {v : Value} {ts : List (List UInt8)} (h : OwnT w base v ts) (hs : Dk.Same (Blk v) w w') : OwnT w' base v ts := ownsRow_keep h (fun g hg => hs g hg)
theorem need_eq (z : Nat) : (0 < z ∧ z % 491 = 0 → need z = z / 491) ∧ (¬ (0 < z ∧ z % 491 = 0) → need z = z / 491 + 1) := by
  unfold need
  omega
end Wl
end Go.Proofs.Ytogkaoiiddhdbaa
