/- The walk of PlanBack. -/
import Derived.Test.YtonfkonjkgalhaaDoorPlHlp
import Derived.Test.YtonfkonjkgalhaaDoorPlAwk
import Derived.Deep.OwnRows
namespace Go.Proofs.YtonfkonjkgalhaaDoor
open Go.RowKit Go.WideMaps
set_option linter.unusedVariables false

namespace Pl
def cellsB (l : List Bool) : List Value := l.map fun b => .bool b
theorem cellsB_len (l : List Bool) : (cellsB l).length = l.length := by simp [cellsB]
theorem cellsB_get (l : List Bool) (j : Nat) (h : j < l.length) : (cellsB l)[j]? = some (.bool (l.getD j false)) := by
  simp [cellsB, List.getElem?_eq_getElem h, List.getD_eq_getElem?_getD]
theorem cellsB_set (l : List Bool) (i : Nat) (v : Bool) : (cellsB l).set i (.bool v) = cellsB (l.set i v) := by simp [cellsB, List.map_set]
theorem infoB : (Tryd.prog.info? 4).map (fun i => (i.zero, i.size, i.bytes)) = some (some (.bool false), 1, 1) := by kernel_rfl
theorem iB : (Tryd.prog.info? 4).map (·.size) = some 1 := by kernel_rfl
theorem falses_made (n : Nat) : madeCells #[.bool false] n = (cellsB (List.replicate n false)).toArray := by
  apply Array.toList_inj.1
  rw [toList_madeCells_one]
  simp [cellsB]
/-- Which of the seats sl are taken: those of l. -/
structure Tk (sl l : List S) (tk : List Bool) : Prop where
  len : tk.length = sl.length
  is : ∀ j, j < sl.length → tk.getD j false = l.contains (gR sl j, gC sl j)
  mem : ∀ s ∈ l, s ∈ sl
  nod : l.Nodup
theorem Tk.zero (sl : List S) : Tk sl [] (List.replicate sl.length false) := ⟨by simp, fun j hj => by simp [List.getD_eq_getElem?_getD, hj], fun s hs => by simp at hs, by simp⟩
theorem Tk.add {sl l : List S} {tk : List Bool} (h : Tk sl l tk) (hn : sl.Nodup) {j : Nat} (hj : j < sl.length) (hf : tk.getD j false = false) : Tk sl (l ++ [(gR sl j, gC sl j)]) (tk.set j true) := by
  refine ⟨by rw [List.length_set]; exact h.len, fun i hi => ?_, fun s hs => ?_, ?_⟩
  · rw [List.getD_eq_getElem?_getD, List.getElem?_set]
    by_cases e : j = i
    · subst e
      have : j < tk.length := by rw [h.len]; exact hj
      simp [this]
    · rw [if_neg e]
      have h1 := h.is i hi
      rw [List.getD_eq_getElem?_getD] at h1
      rw [h1, Bool.eq_iff_iff, List.contains_iff_mem, List.contains_iff_mem, List.mem_append]
      refine ⟨.inl, fun hm => ?_⟩
      rcases hm with hm | hm
      · exact hm
      · simp only [List.mem_singleton] at hm
        rw [← gS sl i hi, ← gS sl j hj] at hm
        exact absurd (nodup_inj hi hj hn hm).symm e
  · rcases List.mem_append.1 hs with hs | hs
    · exact h.mem s hs
    · simp only [List.mem_singleton] at hs
      subst hs
      rw [← gS sl j hj]
      exact List.getElem_mem hj
  · rw [List.nodup_append]
    refine ⟨h.nod, by simp, fun a ha b hb e => ?_⟩
    simp only [List.mem_singleton] at hb
    subst hb
    subst e
    rw [h.is j hj, Bool.eq_false_iff] at hf
    exact hf (List.contains_iff_mem.2 ha)
def BitsY (p : P) (l : List S) (w : World) (e : Ending) (w' : World) : Prop := ∃ b ws, e = .returned (.tuple #[.slice (some ⟨b, 0, none⟩) (((all p).length + 63) / 64) (((all p).length + 63) / 64), .int .i64 0]) ∧ Bw ws (((all p).length + 63) / 64) (bset p l) ∧ Rw.Blk w' b 63 (cellsN ws) ∧ Below w.heap.size w w'
def OfY (p : P) (ws : List Nat) (w : World) (e : Ending) (w' : World) : Prop := ∃ A c, e = .returned (.tuple #[.slice A (ofL p ws (64 * ws.length)).length c, .int .i64 0]) ∧ OwnS w' w.heap.size (.slice A (ofL p ws (64 * ws.length)).length c) (ofL p ws (64 * ws.length)) ∧ Below w.heap.size w w'
def OfN (w : World) (e : Ending) (w' : World) : Prop := ∃ c : Int, (c != 0) = true ∧ e = .returned (.tuple #[.slice none 0 0, .int .i64 c]) ∧ Below w.heap.size w w'
def OfZ (lw : List S) (w : World) (e : Ending) (w' : World) : Prop := ∃ A c, e = .returned (.tuple #[.slice A lw.length c, .int .i64 0]) ∧ OwnS w' w.heap.size (.slice A lw.length c) lw ∧ Below w.heap.size w w'
def BitsZ (ws : List Nat) (w : World) (e : Ending) (w' : World) : Prop := ∃ b, e = .returned (.tuple #[.slice (some ⟨b, 0, none⟩) ws.length ws.length, .int .i64 0]) ∧ Rw.Blk w' b 63 (cellsN ws) ∧ Below w.heap.size w w'
theorem OwnS.sts2 {w : World} {base n c : Nat} {A : Option Addr} {l : List S} (h : OwnS w base (.slice A n c) l) : Sts w w.heap.size A l := by
  obtain ⟨A', cap', hv, _, hs⟩ := h.sts
  injection hv with e1 e2 e3
  subst e1
  exact hs
theorem Nums.kept' {w w' : World} {A : Option Addr} {l : List Nat} (h : Nums w w.heap.size A l) (hb : Below w.heap.size w w') : Nums w' w'.heap.size A l := fun hl => by
  obtain ⟨b, off, e, h1, h2⟩ := h hl
  exact ⟨b, off, e, Nat.lt_of_lt_of_le h1 hb.size, fun j hj => (hb.cell (p := ⟨b, off + j, none⟩) h1).trans (h2 j hj)⟩
end Pl
theorem bits_yes (p : Pl.P) (l : List Pl.S) (n cap B base g : Nat) (A : Option Addr) (w : World) (ho : Pl.rowsOk p = true) (hl : Pl.lettersOk p.lt = true) (hm : Pl.MapAt w base g p (Pl.pls p)) (h : Pl.Sts w B A l) (hB : B ≤ w.heap.size) (hll : l.length ≤ 1000000) (hws : ∀ s ∈ l, Pl.WS s)
    (hn : n = l.length) (ha : l.all (Pl.hasS p) = true) (hd : l.Nodup) : Calls Tryd.prog 30 #[.pointer (some ⟨g, 0, none⟩), .slice A n cap] w (Pl.BitsY p l w) := by
  subst hn
  refine (bits_any p l A cap B base g w ho hl hm h hB hll hws).mono fun e w' hr => ?_
  rcases hr with ⟨h1, _⟩ | ⟨_, h2, _⟩ | ⟨_, _, b, ws', rfl, h3, h4, h5, h6⟩
  · rw [ha] at h1; cases h1
  · exact absurd hd h2
  · exact ⟨b, ws', rfl, h3, h4, h6⟩
theorem of_yes (p : Pl.P) (ws : List Nat) (n cap B base g : Nat) (A : Option Addr) (w : World) (ho : Pl.rowsOk p = true) (hl : Pl.lettersOk p.lt = true) (hm : Pl.MapAt w base g p (Pl.pls p)) (h : Pl.Nums w B A ws) (hB : B ≤ w.heap.size) (h64 : ∀ j, Pl.gN ws j < 18446744073709551616) (hwl : ws.length ≤ 9223372036854775807)
    (hn : n = ws.length) (hg : ws.length = ((Pl.all p).length + 63) / 64 ∧ ∀ n, n < 64 * ws.length → Pl.on ws n = true → Pl.okN p n = true) : Calls Tryd.prog 33 #[.pointer (some ⟨g, 0, none⟩), .slice A n cap] w (Pl.OfY p ws w) := by
  subst hn
  refine (of_any p ws A cap B base g w ho hl hm h hB h64 hwl).mono fun e w' hr => ?_
  rcases hr with ⟨h1, _⟩ | ⟨_, ⟨n, h2, h3, h4⟩, _⟩ | ⟨_, _, A, c, rfl, h3, h4⟩
  · exact absurd hg.1 h1
  · rw [hg.2 n h2 h3] at h4; cases h4
  · exact ⟨A, c, rfl, h3, h4⟩
theorem of_no (p : Pl.P) (ws : List Nat) (cap B base g : Nat) (A : Option Addr) (w : World) (ho : Pl.rowsOk p = true) (hl : Pl.lettersOk p.lt = true) (hm : Pl.MapAt w base g p (Pl.pls p)) (h : Pl.Nums w B A ws) (hB : B ≤ w.heap.size) (h64 : ∀ j, Pl.gN ws j < 18446744073709551616) (hwl : ws.length ≤ 9223372036854775807)
    (hg : ¬ (ws.length = ((Pl.all p).length + 63) / 64 ∧ ∀ n, n < 64 * ws.length → Pl.on ws n = true → Pl.okN p n = true)) : Calls Tryd.prog 33 #[.pointer (some ⟨g, 0, none⟩), .slice A ws.length cap] w (Pl.OfN w) := by
  refine (of_any p ws A cap B base g w ho hl hm h hB h64 hwl).mono fun e w' hr => ?_
  rcases hr with ⟨h1, h2, h3⟩ | ⟨_, _, h2, h3⟩ | ⟨h1, h2, _⟩
  · exact ⟨2, rfl, h2, h3⟩
  · exact ⟨15, rfl, h2, h3⟩
  · exact absurd ⟨h1, h2⟩ hg
end Go.Proofs.YtonfkonjkgalhaaDoor
