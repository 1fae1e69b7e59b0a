/- A map of seats in memory. -/
import Derived.Test.YtonfkonjkgalhaaDoorRwO
import Derived.Test.YtonfkonjkgalhaaDoorPlAll
import Derived.Deep.Cut
import Derived.Deep.DeepCutAuto
namespace Go.Proofs.YtonfkonjkgalhaaDoor
open Go.RowKit Go.WideMaps
set_option linter.unusedVariables false

namespace Pl
/-- What the map holds of a place. -/
def mkq (p : P) (q : Int × Nat) : ByteArray := if p.bl.contains (seatOf p q) then ⟨#[]⟩ else marks p q.1 q.2
def plc (p : P) (n : Nat) (q : Int × Nat) : List Value := [.int .i64 n, .bool (p.bl.contains (seatOf p q)), .string (mkq p q)]
def ent (p : P) (l : List (Int × Nat)) : List (Value × Value) := l.mapIdx fun n q => (sv (seatOf p q), .agg (plc p n q).toArray)
theorem ent_len (p : P) (l : List (Int × Nat)) : (ent p l).length = l.length := by simp [ent]
theorem ent_append (p : P) (l : List (Int × Nat)) (q : Int × Nat) : ent p (l ++ [q]) = ent p l ++ [(sv (seatOf p q), .agg (plc p l.length q).toArray)] := by
  simp [ent, List.mapIdx_append]
theorem ent_get (p : P) (l : List (Int × Nat)) (j : Nat) (hj : j < l.length) : (ent p l)[j]? = some (sv (seatOf p l[j]), .agg (plc p j l[j]).toArray) := by
  simp [ent, hj]
theorem ent_mem {p : P} {l : List (Int × Nat)} {e : Value × Value} (h : e ∈ ent p l) : ∃ (j : Nat) (hj : j < l.length), e = (sv (seatOf p l[j]), .agg (plc p j l[j]).toArray) := by
  obtain ⟨j, hj⟩ := List.mem_iff_getElem?.1 h
  have hl : j < l.length := by have := (List.getElem?_eq_some_iff.1 hj).1; rwa [ent_len] at this
  rw [ent_get p l j hl] at hj
  exact ⟨j, hl, by injection hj with hj; exact hj.symm⟩
/-- A map at g of the places l. -/
structure MapAt (w : World) (base g : Nat) (p : P) (l : List (Int × Nat)) : Prop where
  at_ : ∃ A cap m, Rw.Blk w g 71 [.slice A l.length cap, .map (some m)] ∧ OwnS w base (.slice A l.length cap) (l.map (seatOf p)) ∧ Mp.MapL Tryd.prog 23 w m (ent p l) ∧ base ≤ m
  lo : base ≤ g
theorem uMap : Tryd.prog.underlying 69 = some (.map 23 75) := by kernel_rfl
theorem zPlace : ∀ w, (zeroValue 75).run Tryd.prog w = .ok (.agg #[.int .i64 0, .bool false, .string ⟨#[]⟩]) w := fun w => by kernel_rfl
theorem zSeat : ∀ w, (zeroValue 23).run Tryd.prog w = .ok (.agg #[.int .i64 0, .int .u8 0]) w := fun w => by kernel_rfl
theorem iSeat : (Tryd.prog.info? 23).map (·.size) = some 2 := by kernel_rfl
theorem iPlace : (Tryd.prog.info? 75).map (·.size) = some 3 := by kernel_rfl
theorem iText : (Tryd.prog.info? 9).map (·.size) = some 1 := by kernel_rfl
theorem iSl : (Tryd.prog.info? 30).map (·.size) = some 1 := by kernel_rfl
theorem MapAt.kept {w w' : World} {base g : Nat} {p : P} {l : List (Int × Nat)} (h : MapAt w base g p l) (hb : ∀ k, base ≤ k → k < w.heap.size → w'.heap[k]? = w.heap[k]?) : MapAt w' base g p l := by
  obtain ⟨⟨A, cap, m, h1, h2, h3, h4⟩, h5⟩ := h
  refine ⟨⟨A, cap, m, h1.kept (hb g h5 h1.lt), ?_, h3.kept (hb m h4 h3.lt), h4⟩, h5⟩
  obtain ⟨e1, e2 | ⟨g2, cap2, cur, hv, hg, hh, e3⟩⟩ := h2
  · exact ⟨e1, .inl e2⟩
  · exact ⟨e1, .inr ⟨g2, cap2, cur, hv, hg, (hb g2 hg (Rw.lt_of_some hh)).trans hh, e3⟩⟩
theorem MapAt.below {w w' : World} {base g : Nat} {p : P} {l : List (Int × Nat)} (h : MapAt w base g p l) (hb : Below w.heap.size w w') : MapAt w' base g p l := h.kept fun k _ hk => hb.block k hk
theorem MapAt.low {w : World} {base base' g : Nat} {p : P} {l : List (Int × Nat)} (h : MapAt w base g p l) (hb : base' ≤ base) : MapAt w base' g p l := by
  obtain ⟨⟨A, cap, m, h1, h2, h3, h4⟩, h5⟩ := h
  exact ⟨⟨A, cap, m, h1, h2.low hb, h3, by omega⟩, by omega⟩
theorem uP : Tryd.prog.underlying 32 = some ((Tryd.prog.underlying 32).getD .bool) := by kernel_rfl
theorem rP : ((Tryd.prog.underlying 32).getD .bool).isRow = true := by kernel_rfl
theorem iP : (Tryd.prog.info? 32).map (·.size) = some 5 := by kernel_rfl
theorem uS : Tryd.prog.underlying 23 = some ((Tryd.prog.underlying 23).getD .bool) := by kernel_rfl
theorem rS : ((Tryd.prog.underlying 23).getD .bool).isRow = true := by kernel_rfl
theorem uQ : Tryd.prog.underlying 75 = some ((Tryd.prog.underlying 75).getD .bool) := by kernel_rfl
theorem rQ : ((Tryd.prog.underlying 75).getD .bool).isRow = true := by kernel_rfl
end Pl
namespace Rw
theorem Blk.set1 {w : World} {g : Nat} {t : TypeId} {cs : List Value} (h : Blk w g t cs) (i : Nat) (u : Value) : Blk (w.setCell ⟨g, i, none⟩ u) g t (cs.set i u) := by
  unfold Blk at h ⊢
  simp [World.setCell, Array.getElem?_modify, h]
theorem Blk.far1 {w : World} {g g' : Nat} {t : TypeId} {cs : List Value} (h : Blk w g t cs) (i : Nat) (u : Value) (hne : g ≠ g') : Blk (w.setCell ⟨g', i, none⟩ u) g t cs := (Below.heap_setCell w ⟨g', i, none⟩ u g hne).trans h
theorem blk_ne {w : World} {g g' : Nat} {t t' : TypeId} {cs cs' : List Value} (h : Blk w g t cs) (h' : Blk w g' t' cs') (hne : t ≠ t') : g ≠ g' := by
  rintro rfl
  unfold Blk at h h'
  rw [h] at h'
  injection h' with h'
  injection h' with _ ht
  exact hne ht
theorem setCell_heap {w : World} {g i k : Nat} (u : Value) (hne : k ≠ g) : (w.setCell ⟨g, i, none⟩ u).heap[k]? = w.heap[k]? := Below.heap_setCell w ⟨g, i, none⟩ u k hne
end Rw
end Go.Proofs.YtonfkonjkgalhaaDoor
