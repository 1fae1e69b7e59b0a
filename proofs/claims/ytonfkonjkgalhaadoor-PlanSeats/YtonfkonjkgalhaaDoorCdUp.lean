/- Contracts of Upper and of the document's Upper. -/
import Derived.Test.YtonfkonjkgalhaaDoorCdPlain
import Derived.Deep.OwnRows
import Derived.Laws.BytesArg
import Derived.Laws.IdiomStrings
import Derived.Laws.AppendOwnNone
namespace Go.Proofs.YtonfkonjkgalhaaDoor
open Go.RowKit
set_option linter.unusedVariables false

namespace Cd
/-- A byte in great letters. -/
def up8 (c : UInt8) : UInt8 := if 97 ≤ c.toNat ∧ c.toNat ≤ 122 then UInt8.ofNat (c.toNat - 32) else c
def upper (s : ByteArray) : ByteArray := ⟨(s.data.toList.map up8).toArray⟩
theorem up8_yes {c : UInt8} (h1 : 97 ≤ c.toNat) (h2 : c.toNat ≤ 122) : ((up8 c).toNat : Int) = (c.toNat : Int) - 32 := by
  unfold up8
  rw [if_pos ⟨h1, h2⟩]
  simp only [UInt8.toNat_ofNat']
  omega
theorem up8_no {c : UInt8} (h : ¬ (97 ≤ c.toNat ∧ c.toNat ≤ 122)) : up8 c = c := by unfold up8; rw [if_neg h]
theorem val_int {k : IntKind} {a b : Int} (h : a = b) : Value.int k a = .int k b := by rw [h]
theorem ret_val {a b : Value} (h : a = b) : Ending.returned a = .returned b := by rw [h]

/-- The cells of block g from 0 on are the bytes l, and may be written. -/
def Brow (w : World) (g : Nat) (l : List UInt8) : Prop := ∀ j (hj : j < l.length), w.cell? ⟨g, j, none⟩ = some (.int .u8 (l[j].toNat : Int)) ∧ w.frozen? ⟨g, j, none⟩ = false
theorem Brow.set {w : World} {g : Nat} {l : List UInt8} (h : Brow w g l) (k : Nat) (hk : k < l.length) (c : UInt8) : Brow (w.setCell ⟨g, k, none⟩ (.int .u8 (c.toNat : Int))) g (l.set k c) := fun j hj => by
  rw [List.length_set] at hj
  obtain ⟨h1, h2⟩ := h j hj
  refine ⟨?_, by rw [World.frozen?_setCell]; exact h2⟩
  by_cases e : k = j
  · subst e
    rw [World.cell?_setCell_same _ _ _ h1]
    simp
  · rw [World.cell?_setCell_other _ _ _ _ (by intro h; injection h; omega), h1]
    simp [e]
theorem add_plain (b off j : Nat) : (⟨b, off, none⟩ : Addr).add j = ⟨b, off + j, none⟩ := by unfold Addr.add; split <;> simp_all
theorem Brow.conv {w : World} {g : Nat} {l : List UInt8} (h : Brow w g l) (c : Nat) : (convert 66 9 (.slice (some ⟨g, 0, none⟩) l.length c)).run Tryd.prog w = .ok (.string ⟨l.toArray⟩) w := by
  refine run_convert_bytes_back w 66 9 5 _ c l Tryd.underlying66 Tryd.underlying5 Tryd.underlying9 fun j hj => ?_
  rw [add_plain, Nat.zero_add]
  exact (h j hj).1
/-- The bytes l, the first k of them in great letters. -/
def upTo (l : List UInt8) (k : Nat) : List UInt8 := (l.take k).map up8 ++ l.drop k
theorem length_upTo (l : List UInt8) (k : Nat) : (upTo l k).length = l.length := by simp [upTo]; omega
theorem upTo_zero (l : List UInt8) : upTo l 0 = l := by simp [upTo]
theorem upTo_all (l : List UInt8) : upTo l l.length = l.map up8 := by simp [upTo]
theorem upTo_at (l : List UInt8) (k : Nat) (h : k < l.length) : (upTo l k)[k]'(by rw [length_upTo]; exact h) = l[k] := by
  unfold upTo
  rw [List.getElem_append_right (by simp; omega)]
  simp [Nat.min_eq_left (Nat.le_of_lt h)]
theorem upTo_succ (l : List UInt8) (k : Nat) (h : k < l.length) : (upTo l k).set k (up8 l[k]) = upTo l (k + 1) := by
  have e1 : ((l.take k).map up8).length = k := by rw [List.length_map, List.length_take]; omega
  unfold upTo
  rw [List.set_append_right _ _ (by omega), e1, Nat.sub_self, List.drop_eq_getElem_cons h, List.set_cons_zero, List.take_succ_eq_append_getElem h, List.map_append, List.append_assoc]
  rfl
theorem upTo_same (l : List UInt8) (k : Nat) (h : k < l.length) (e : up8 l[k] = l[k]) : upTo l k = upTo l (k + 1) := by
  rw [← upTo_succ l k h, e]
  have hl : k < (upTo l k).length := by rw [length_upTo]; exact h
  have h1 := upTo_at l k h
  rw [← h1]
  exact (List.set_getElem_self hl).symm
/-- []byte(s). -/
theorem bytes_of (s : ByteArray) (w : World) : ∃ cap w1, (convert 9 66 (.string s)).run Tryd.prog w = .ok (.slice (some ⟨w.heap.size, 0, none⟩) s.size cap) w1 ∧
    Hid (Brow w1 w.heap.size s.data.toList) ∧ Below w.heap.size w w1 ∧ w.heap.size < w1.heap.size := by
  refine ⟨_, _, run_bytes_of_string w 9 66 5 s Tryd.underlying9 Tryd.underlying66 Tryd.underlying5, ?_, ?_, ?_⟩
  · intro j hj
    have hj' : j < s.data.size := by simpa using hj
    have hsz : s.data.size = s.size := rfl
    refine ⟨?_, ?_⟩
    · have := World.cell?_alloc_mark w.drew (bytesRow s (grownCap w s.size 0 5)) 5 ((bytesRow s (grownCap w s.size 0 5)).size, (bytesRow s (grownCap w s.size 0 5)).size + 1) j
      refine Eq.trans this ?_
      rw [bytesRow, Array.getElem?_append_left (by simp; omega)]
      simp
      exact ⟨_, Array.getElem?_eq_getElem hj', rfl⟩
    · have hh : (w.drew.alloc (.cells (bytesRow s (grownCap w s.size 0 5)) 5 ((bytesRow s (grownCap w s.size 0 5)).size, (bytesRow s (grownCap w s.size 0 5)).size + 1))).heap[w.heap.size]? = some (.cells (bytesRow s (grownCap w s.size 0 5)) 5 ((bytesRow s (grownCap w s.size 0 5)).size, (bytesRow s (grownCap w s.size 0 5)).size + 1)) := heap_alloc_new w.drew _
      have hlt : j < (bytesRow s (grownCap w s.size 0 5)).size := by simp [bytesRow]; omega
      generalize bytesRow s (grownCap w s.size 0 5) = C at *
      unfold World.frozen?
      rw [hh]
      simp; omega
  · exact ((Below.refl w.heap.size w).drew).alloc (Nat.le_refl _) _
  · rw [World.size_alloc]; exact Nat.lt_succ_self _
end Cd

end Go.Proofs.YtonfkonjkgalhaaDoor
