/- Bytes in memory: what a slice of bytes holds, how it is kept, and the contract of roomier. -/
import Derived.Test.YtogkaoiiddhdbaaWSum
import Derived.Test.YtogkaoiiddhdbaaMem
import Derived.Deep.OwnRows
import Derived.Laws.CopyOwn
import Derived.Laws.BytesArg
import Derived.Laws.IdiomStrings
namespace Go.Proofs.Ytogkaoiiddhdbaa
open Go.RowKit

namespace Wd
def cell8 (c : UInt8) : Value := .int .u8 (c.toNat : Int)
def cells8 (l : List UInt8) : List Value := l.map cell8
/-- Block g is just the bytes l. -/
def Row (w : World) (g : Nat) (l : List UInt8) : Prop := w.heap[g]? = some (.cells (cells8 l).toArray 5 (0, 0))

theorem length_cells8 (l : List UInt8) : (cells8 l).length = l.length := by simp [cells8]
theorem get_cells8 (l : List UInt8) (j : Nat) (hj : j < l.length) : (cells8 l)[j]? = some (.int .u8 (l[j].toNat : Int)) := by
  simp [cells8, cell8, hj]
theorem one_cells8 (l : List UInt8) : ∀ v ∈ cells8 l, v.oneCell' = true := by
  intro v hv
  obtain ⟨c, _, rfl⟩ := List.mem_map.1 hv
  rfl

section
variable {w w' : World} {g B : Nat} {A : Option Addr} {l : List UInt8}
theorem Row.heap (h : Row w g l) : w.heap[g]? = some (.cells (cells8 l).toArray 5 (0, 0)) := h
theorem Row.lt (h : Row w g l) : g < w.heap.size := by
  rcases Nat.lt_or_ge g w.heap.size with hlt | hge
  · exact hlt
  · unfold Row at h; rw [Array.getElem?_eq_none hge] at h; cases h
theorem Row.cell (h : Row w g l) (j : Nat) (hj : j < l.length) : w.cell? ⟨g, j, none⟩ = some (.int .u8 (l[j].toNat : Int)) := by
  rw [cell_of_row w g j _ _ _ h, List.getElem?_toArray, get_cells8 l j hj]
theorem Row.free (h : Row w g l) (j : Nat) : w.frozen? ⟨g, j, none⟩ = false := by
  unfold Row at h
  simp [World.frozen?, h]
theorem Row.below (h : Row w g l) (hb : Below B w w') (hg : g < B) : Row w' g l := (hb.block g hg).trans h
theorem Row.set (h : Row w g l) (j : Nat) (c : UInt8) : Row (w.setCell ⟨g, j, none⟩ (.int .u8 (c.toNat : Int))) g (l.set j c) := by
  unfold Row at h ⊢
  simp [World.setCell, Array.getElem?_modify, h, cells8, List.map_set, cell8]
theorem Row.bts (h : Row w g l) (hg : g < B) : Bts w B (some ⟨g, 0, none⟩) l := fun _ =>
  ⟨g, 0, rfl, hg, fun j hj => by rw [Nat.zero_add]; exact h.cell j hj⟩
theorem Bts.below (h : Bts w B A l) (hb : Below B w w') : Bts w' B A l := fun hl => by
  obtain ⟨b, off, e, hB, hc⟩ := h hl
  exact ⟨b, off, e, hB, fun j hj => (hb.cell (p := ⟨b, off + j, none⟩) hB).trans (hc j hj)⟩
theorem Bts.more {B' : Nat} (h : Bts w B A l) (hB : B ≤ B') : Bts w B' A l := fun hl => by
  obtain ⟨b, off, e, hb, hc⟩ := h hl
  exact ⟨b, off, e, by omega, hc⟩
theorem Bts.take (h : Bts w B A l) (n : Nat) : Bts w B A (l.take n) := fun hl => by
  have hl' : 0 < l.length := by rw [List.length_take] at hl; omega
  obtain ⟨b, off, e, hb, hc⟩ := h hl'
  exact ⟨b, off, e, hb, fun j hj => by rw [hc j (by simp at hj; omega)]; simp⟩
theorem add_plain (b off j : Nat) : (⟨b, off, none⟩ : Addr).add j = ⟨b, off + j, none⟩ := by unfold Addr.add; split <;> simp_all
/-- string(b), b a slice of the bytes l. -/
theorem conv (h : Bts w B A l) (c : Nat) : (convert 40 9 (.slice A l.length c)).run Try.prog w = .ok (.string ⟨l.toArray⟩) w := by
  rcases A with _ | a
  · have hl : l = [] := by
      rcases Nat.eq_zero_or_pos l.length with h0 | h0
      · exact List.eq_nil_of_length_eq_zero h0
      · obtain ⟨b, off, e, _⟩ := h h0; cases e
    subst hl
    exact run_convert_bytes_nil w 40 5 Try.underlying40 Try.underlying5 _ _ 9 Try.underlying9
  · refine run_convert_bytes_back w 40 9 5 a c l Try.underlying40 Try.underlying5 Try.underlying9 fun j hj => ?_
    obtain ⟨b, off, e, _, hc⟩ := h (by omega)
    injection e with e
    subst e
    rw [add_plain]
    exact hc j hj
end

theorem zeros_made (n : Nat) : madeCells #[.int .u8 0] n = (cells8 (List.replicate n 0)).toArray := by
  apply Array.toList_inj.1
  rw [toList_madeCells_one]
  simp [cells8, cell8]
def zeros (n : Nat) : List UInt8 := List.replicate n 0
theorem length_zeros (n : Nat) : (zeros n).length = n := by simp [zeros]

theorem u8_info : (Try.prog.info? 5).map (fun i => (i.zero, i.size, i.bytes)) = some (some (.int .u8 0), 1, 1) := by kernel_rfl
theorem u8_size : (Try.prog.info? 5).map (·.size) = some 1 := by kernel_rfl

/-- make([]byte, n). -/
theorem wpList_make8 {w : World} {ops : Array Oper} {rest : List Oper} {o : Oper} {a : Act} {Q : Exit → Act → World → Prop}
    (hg : o.guard = none) (x c : Operand) (hop : o.op = Op.makeSlice 40 x c) (L C : Int) (n : Nat) (hl : a.eval x = .int .i64 L) (hc : a.eval c = .int .i64 C) (hL : L = (n : Int)) (hC : C = (n : Int)) (hn : n ≤ 281474976710656)
    (hK : ∀ w', Hid (Row w' w.heap.size (zeros n)) → Below w.heap.size w w' → w.heap.size < w'.heap.size → wpList Try.prog ops Q rest (a.put o.dst (.slice (some ⟨w.heap.size, 0, none⟩) n n)) w') :
    wpList Try.prog ops Q (o :: rest) a w := by
  obtain ⟨i0, hi0, hz0, hz1, hz2⟩ := info_parts u8_info
  subst hL
  subst hC
  refine wpList_make_row w hg x c 40 hop 5 i0 (.int .u8 0) Try.underlying40 hi0 hz0 hz1 rfl .i64 .i64 n hl hc (by rw [hz2]; omega) (by omega) ?_
  refine hK _ ?_ ((Below.refl _ _).alloc (Nat.le_refl _) _) (by simp)
  show _ = _
  rw [zeros_made]
  exact heap_alloc_new w _
theorem splice0 (l m : List Value) : splice l 0 m = m ++ l.drop m.length := by simp [splice]
theorem splice_zeros (l : List UInt8) (n : Nat) : splice (cells8 (zeros (l.length + n))) 0 (cells8 l) = cells8 (l ++ zeros n) := by
  rw [splice0]
  simp [cells8, zeros, List.drop_replicate]
end Wd

theorem roomier_any (A : Option Addr) (l : List UInt8) (c B n : Nat) (w : World) (h : Wd.Bts w B A l) (hB : B ≤ w.heap.size) (hn : l.length + n ≤ 281474976710656) :
    Calls Try.prog 94 #[.slice A l.length c, .int .i64 (n : Int)] w fun e w' => e = .returned (.slice (some ⟨w.heap.size, 0, none⟩) (l.length + n) (l.length + n)) ∧
      Hid (Wd.Row w' w.heap.size (l ++ Wd.zeros n)) ∧ Below w.heap.size w w' := by
  have H := Lib.hid h
  have hmin : (Wd.cells8 l).length = Nat.min l.length (l.length + n) := by rw [Wd.length_cells8]; exact (Nat.min_eq_left (by omega)).symm
  have hfit : 0 + (Wd.cells8 l).length ≤ (Wd.cells8 (Wd.zeros (l.length + n))).length := by rw [Wd.length_cells8, Wd.length_cells8, Wd.length_zeros]; omega
  have HP : Hid (∀ w1, Below w.heap.size w w1 → 0 < (Wd.cells8 l).length → (some ⟨w.heap.size, 0, none⟩ : Option Addr) = some ⟨w.heap.size, 0, none⟩ ∧ ∃ ad, A = some ad ∧ ∀ j v, (Wd.cells8 l)[j]? = some v → w1.cell? (ad.add j) = some v) :=
    fun w1 hb hp => by
      rw [Wd.length_cells8] at hp
      obtain ⟨b, off, rfl, hb', hc⟩ := h hp
      refine ⟨rfl, _, rfl, fun j v hv => ?_⟩
      have hj : j < l.length := by
        have := (List.getElem?_eq_some_iff.1 hv).1
        rwa [Wd.length_cells8] at this
      rw [Wd.get_cells8 l j hj] at hv
      injection hv with hv
      subst hv
      rw [Wd.add_plain]
      exact (hb.cell (p := ⟨b, off + j, none⟩) (by show b < _; omega)).trans (hc j hj)
  have HM := Lib.hid hmin
  have HF := Lib.hid hfit
  clear h hmin hfit H
  go_enter Try.func94, Try.ntmps94
  go_wp2_with (first
    | (at_make; refine Wd.wpList_make8 rfl (.tmp 9) (.tmp 9) rfl _ _ (l.length + n) rfl rfl (by omega) (by omega) hn ?_; intro w1 HR hb hs)
    | (refine wpList_copy_splice (o := ⟨some 13, _, _, _, _, _⟩) rfl (.tmp 11) (.tmp 12) 40 40 rfl 5 Try.underlying40 Wd.u8_size _ _ _ _ _ _ rfl rfl w.heap.size 0 (Wd.cells8 (Wd.zeros (l.length + n))) 5 (Wd.Row.heap HR.out) (Wd.cells8 l) HM.out (HP.out w1 hb) HF.out (Wd.one_cells8 l) w.heap.size w hb (Nat.le_refl _) ?_; intro w2 HR2 hb2))
  go_ret
  refine ⟨rfl, ?_, hb2⟩
  have := HR2.out
  rw [Wd.splice_zeros] at this
  exact this
end Go.Proofs.Ytogkaoiiddhdbaa
