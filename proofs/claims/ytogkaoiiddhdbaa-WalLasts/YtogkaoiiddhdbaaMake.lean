/- Contracts of New, forget and Full. -/
import Derived.Test.YtogkaoiiddhdbaaLeaf
namespace Go.Proofs.Ytogkaoiiddhdbaa
open Go.RowKit

namespace Dk
def S.new (n : Int) : S := { n := n, safe := fun _ => none, wait := [], down := false, fused := false, left := 0 }
/-- The slice at A holds the bytes l, in blocks of which G holds. -/
def Bts (w : World) (G : Nat → Prop) (A : Option Addr) (l : List UInt8) : Prop :=
  0 < l.length → ∃ b off, A = some ⟨b, off, none⟩ ∧ G b ∧ ∀ j (hj : j < l.length), w.cell? ⟨b, off + j, none⟩ = some (.int .u8 (l[j].toNat : Int))
/-- Block g is just the bytes l (e: its element type). -/
def Row (w : World) (g e : Nat) (l : List UInt8) : Prop := w.heap[g]? = some (.cells (cells8 l).toArray e (0, 0))
section
variable {w w' : World} {g e B : Nat} {A : Option Addr} {l : List UInt8} {G : Nat → Prop}
theorem Row.lt (h : Row w g e l) : g < w.heap.size := lt_of_some h
theorem Row.cell (h : Row w g e l) (j : Nat) (hj : j < l.length) : w.cell? ⟨g, j, none⟩ = some (.int .u8 (l[j].toNat : Int)) := by
  rw [cell_of_row w g j _ _ _ h, List.getElem?_toArray, get_cells8 l j hj]
theorem Row.free (h : Row w g e l) (j : Nat) : w.frozen? ⟨g, j, none⟩ = false := by
  unfold Row at h
  simp [World.frozen?, h]
theorem Row.kept (h : Row w g e l) (hb : w'.heap[g]? = w.heap[g]?) : Row w' g e l := hb.trans h
theorem Row.set (h : Row w g e l) (j : Nat) (c : UInt8) : Row (w.setCell ⟨g, j, none⟩ (.int .u8 (c.toNat : Int))) g e (l.set j c) := by
  unfold Row at h ⊢
  simp [World.setCell, Array.getElem?_modify, h, cells8, List.map_set, cell8]
theorem Row.bts (h : Row w g e l) : Bts w (· = g) (some ⟨g, 0, none⟩) l := fun _ =>
  ⟨g, 0, rfl, rfl, fun j hj => by rw [Nat.zero_add]; exact h.cell j hj⟩
theorem Bts.kept (h : Bts w G A l) (hb : ∀ k, G k → w'.heap[k]? = w.heap[k]?) : Bts w' G A l := fun hl => by
  obtain ⟨b, off, e, hB, hc⟩ := h hl
  exact ⟨b, off, e, hB, fun j hj => (World.cell?_of_block (w := w) (a := ⟨b, off + j, none⟩) (hb b hB)).trans (hc j hj)⟩
theorem Bts.lt (h : Bts w G A l) : Bts w (fun k => G k ∧ k < w.heap.size) A l := fun hl => by
  obtain ⟨b, off, e, hB, hc⟩ := h hl
  exact ⟨b, off, e, ⟨hB, World.block_lt_of_cell? w _ (hc 0 hl)⟩, hc⟩
theorem Bts.fr {F : Nat → Prop} (h : Bts w G A l) (hf : Fr F w w') (hd : ∀ k, G k → ¬ F k) : Bts w' G A l := fun hl => by
  obtain ⟨b, off, e, ⟨hB, hlt⟩, hc⟩ := h.lt hl
  exact ⟨b, off, e, hB, fun j hj => (World.cell?_of_block (w := w) (a := ⟨b, off + j, none⟩) (hf.block b hlt (hd b hB))).trans (hc j hj)⟩
/-- string(b), b a slice of the bytes l. -/
theorem conv (h : Bts w G A l) (c : Nat) : (convert 40 9 (.slice A l.length c)).run Try.prog w = .ok (.string ⟨l.toArray⟩) w := by
  rcases A with _ | a
  · have hl : l = [] := by
      rcases Nat.eq_zero_or_pos l.length with h0 | h0
      · exact List.eq_nil_of_length_eq_zero h0
      · obtain ⟨b, off, e, _⟩ := h h0; cases e
    subst hl
    exact run_convert_bytes_nil w 40 5 Try.underlying40 Try.underlying5 _ _ 9 Try.underlying9
  · refine run_convert_bytes_back w 40 9 5 a c l Try.underlying40 Try.underlying5 Try.underlying9 fun j hj => ?_
    obtain ⟨b, off, e, _, hc⟩ := h (by omega)
    injection e with e
    subst e
    rw [add_plain]
    exact hc j hj
end
theorem zeros_made (n : Nat) : madeCells #[.int .u8 0] n = (cells8 (List.replicate n 0)).toArray := by
  apply Array.toList_inj.1
  rw [toList_madeCells_one]
  simp [cells8, cell8]
theorem u8_info : (Try.prog.info? 5).map (fun i => (i.zero, i.size, i.bytes)) = some (some (.int .u8 0), 1, 1) := by kernel_rfl
theorem u8_size : (Try.prog.info? 5).map (·.size) = some 1 := by kernel_rfl
/-- make([]byte, 512). -/
theorem wpList_make512 {w : World} {ops : Array Oper} {rest : List Oper} {o : Oper} {a : Act} {Q : Exit → Act → World → Prop}
    (hg : o.guard = none) (x c : Operand) (hop : o.op = Op.makeSlice 40 x c) (hl : a.eval x = .int .i64 512) (hc : a.eval c = .int .i64 512)
    (hK : ∀ w', Hid (Row w' w.heap.size 5 zeros) → Below w.heap.size w w' → w.heap.size < w'.heap.size → wpList Try.prog ops Q rest (a.put o.dst (.slice (some ⟨w.heap.size, 0, none⟩) 512 512)) w') :
    wpList Try.prog ops Q (o :: rest) a w := by
  obtain ⟨i0, hi0, hz0, hz1, hz2⟩ := info_parts u8_info
  refine wpList_make_row w hg x c 40 hop 5 i0 (.int .u8 0) Try.underlying40 hi0 hz0 hz1 rfl .i64 .i64 512 hl hc (by rw [hz2]; omega) (by omega) ?_
  refine hK _ ?_ ((Below.refl _ _).alloc (Nat.le_refl _) _) (by simp)
  show _ = _
  rw [zeros_made]
  exact heap_alloc_new w _
/-- A sector of some bytes, again and again; the first k of it laid. -/
def fullTo (l : List UInt8) (k : Nat) : List UInt8 := (List.range 512).map fun j => if j < k then l.getD (j % l.length) 0 else 0
def full (l : List UInt8) : List UInt8 := fullTo l 512
theorem length_fullTo (l : List UInt8) (k : Nat) : (fullTo l k).length = 512 := by rw [fullTo, List.length_map, List.length_range]
theorem length_full (l : List UInt8) : (full l).length = 512 := length_fullTo l 512
theorem get_fullTo (l : List UInt8) (k j : Nat) (hj : j < 512) : (fullTo l k)[j]? = some (if j < k then l.getD (j % l.length) 0 else 0) := by
  rw [fullTo, List.getElem?_map, List.getElem?_range hj]; rfl
theorem fullTo_zero (l : List UInt8) : fullTo l 0 = zeros := by
  apply List.ext_getElem?
  intro j
  by_cases hj : j < 512
  · rw [get_fullTo l 0 j hj, zeros, List.getElem?_replicate, if_pos hj]; rfl
  · rw [List.getElem?_eq_none (by rw [length_fullTo]; omega), List.getElem?_eq_none (by rw [length_zeros]; omega)]
theorem full_nil : full [] = zeros := by
  apply List.ext_getElem?
  intro j
  by_cases hj : j < 512
  · rw [full, get_fullTo [] 512 j hj, zeros, List.getElem?_replicate, if_pos hj, if_pos hj]; rfl
  · rw [List.getElem?_eq_none (by rw [length_full]; omega), List.getElem?_eq_none (by rw [length_zeros]; omega)]
theorem fullTo_succ (l : List UInt8) (k : Nat) : (fullTo l k).set k (l.getD (k % l.length) 0) = fullTo l (k + 1) := by
  apply List.ext_getElem?
  intro j
  by_cases hj : j < 512
  · rw [List.getElem?_set, get_fullTo l (k + 1) j hj]
    by_cases h : k = j
    · subst h; rw [if_pos rfl, if_pos (by rw [length_fullTo]; omega), if_pos (by omega)]
    · rw [if_neg h, get_fullTo l k j hj]
      congr 1
      by_cases h2 : j < k
      · rw [if_pos h2, if_pos (by omega)]
      · rw [if_neg h2, if_neg (by omega)]
  · rw [List.getElem?_eq_none (by rw [List.length_set, length_fullTo]; omega), List.getElem?_eq_none (by rw [length_fullTo]; omega)]
end Dk

theorem new_bad (n : Int) (w : World) (h : n < 1 ∨ 4096 < n) :
    Calls Try.prog 15 #[.int .i64 n] w fun e w' => e = .returned (.tuple #[.pointer none, .int .i64 1]) ∧ w = w' := by
  rcases h with h | h
  · go_enter Try.func15, Try.ntmps15
    go_wp2
    go_ret2
    exact ⟨rfl, rfl⟩
  · have h1 : ¬ n < 1 := by omega
    go_enter Try.func15, Try.ntmps15
    go_wp2
    go_ret2
    exact ⟨rfl, rfl⟩
namespace Dk
/-- A disk whose blocks are all new. -/
def Born (w w' : World) (p : Nat) (s : S) : Prop := ∃ F, Dsk w' p F s ∧ ∀ k, F k → w.heap.size ≤ k
theorem heap_alloc_lt (w : World) (o : Obj) (k : Nat) (h : k < w.heap.size) : (w.alloc o).heap[k]? = w.heap[k]? := Below.heap_alloc w o k h
theorem born_new (n : Int) (w : World) : Born w (((w.alloc (.map #[] 0)).alloc (.map #[] 0)).alloc (.cells #[.int .i64 n, .map (some w.heap.size), .slice none 0 0, .map (some (w.heap.size + 1)), .bool false, .bool false, .int .i64 0] 87)) (w.heap.size + 1 + 1) (S.new n) := by
  have s1 : (w.alloc (.map #[] 0)).heap.size = w.heap.size + 1 := by simp
  have s2 : ((w.alloc (.map #[] 0)).alloc (.map #[] 0)).heap.size = w.heap.size + 1 + 1 := by simp
  have m1 := MapAt.made w
  have m2 := MapAt.made (w.alloc (.map #[] 0))
  rw [s1] at m2
  have m1' := (m1.kept (heap_alloc_lt _ (.map #[] 0) _ (by rw [s1]; omega)))
  have m1'' := (m1'.kept (heap_alloc_lt _ (.cells #[.int .i64 n, .map (some w.heap.size), .slice none 0 0, .map (some (w.heap.size + 1)), .bool false, .bool false, .int .i64 0] 87) _ (by rw [s2]; omega)))
  have m2' := (m2.kept (heap_alloc_lt _ (.cells #[.int .i64 n, .map (some w.heap.size), .slice none 0 0, .map (some (w.heap.size + 1)), .bool false, .bool false, .int .i64 0] 87) _ (by rw [s2]; omega)))
  refine ⟨Own (w.heap.size + 1 + 1) w.heap.size (w.heap.size + 1) (.slice none 0 0), ⟨_, _, _, ⟨?_, m1''.congr (fun _ => rfl), m2'.congr (fun _ => rfl), World.ownsRow_nil _ _ _ _, by omega, by omega, by omega, by simp [Value.ownBlock], by simp [Value.ownBlock], by simp [Value.ownBlock], by simp [S.new], by simp [S.new]⟩, rfl⟩, ?_⟩
  · rw [← s2]
    exact heap_alloc_new _ _
  · rintro k (rfl | rfl | rfl | hk)
    · omega
    · omega
    · omega
    · cases hk
end Dk
theorem new_any (n : Int) (w : World) (h : 1 ≤ n) (h' : n ≤ 4096) :
    Calls Try.prog 15 #[.int .i64 n] w fun e w' => e = .returned (.tuple #[.pointer (some ⟨w.heap.size + 1 + 1, 0, none⟩), .int .i64 0]) ∧ Hid (Dk.Born w w' (w.heap.size + 1 + 1) (Dk.S.new n)) ∧ Below w.heap.size w w' := by
  have h1 : ¬ n < 1 := by omega
  have h2 : ¬ 4096 < n := by omega
  have hmm := @run_makeMap Try.prog
  have HB := Lib.hid (Dk.born_new n w)
  have hb : Below w.heap.size w (((w.alloc (.map #[] 0)).alloc (.map #[] 0)).alloc (.cells #[.int .i64 n, .map (some w.heap.size), .slice none 0 0, .map (some (w.heap.size + 1)), .bool false, .bool false, .int .i64 0] 87)) :=
    (((Below.refl _ w).alloc (Nat.le_refl _) _).alloc (by simp) _).alloc (by simp; omega) _
  go_enter Try.func15, Try.ntmps15
  go_wp2
  go_ret2
  exact ⟨rfl, HB, hb⟩
namespace Dk
theorem set_row {w : World} {p : Nat} {cs : Array Value} {t : TypeId} {fr : Nat × Nat} (h : w.heap[p]? = some (.cells cs t fr)) (j : Nat) (u : Value) : (w.setCell ⟨p, j, none⟩ u).heap[p]? = some (.cells (cs.setIfInBounds j u) t fr) := by
  simp [World.setCell, Array.getElem?_modify, h]
theorem forgot_size (w : World) (p : Nat) : (w.setCell ⟨p, 2, none⟩ (.slice none 0 0)).heap.size = w.heap.size := by simp [World.setCell]
theorem forgot_other (w : World) (p k : Nat) (hk : k ≠ p) (hlt : k < w.heap.size) (u u' : Value) (o : Obj) : (((w.setCell ⟨p, 2, none⟩ u).alloc o).setCell ⟨p, 3, none⟩ u').heap[k]? = w.heap[k]? := by
  rw [Below.heap_setCell _ _ _ _ hk, Below.heap_alloc _ _ _ (by simp [World.setCell]; exact hlt), Below.heap_setCell _ _ _ _ hk]
theorem At.forgot {w : World} {p a c : Nat} {v : Value} {s : S} (h : At w p a c v s) :
    Hid (At (((w.setCell ⟨p, 2, none⟩ (.slice none 0 0)).alloc (.map #[] 0)).setCell ⟨p, 3, none⟩ (.map (some w.heap.size))) p a w.heap.size (.slice none 0 0) s.forget) := by
  have hp : p < w.heap.size := lt_of_some h.str
  have ha := h.safe.lt
  refine ⟨?_, h.safe.kept (forgot_other w p a (Ne.symm h.pa) ha _ _ _), ?_, World.ownsRow_nil _ _ _ _, h.pa, by omega, by omega, by simp [Value.ownBlock], by simp [Value.ownBlock], by simp [Value.ownBlock], by simp [S.forget], h.oks⟩
  · have h1 := set_row h.str 2 (.slice none 0 0)
    have h2 := (heap_alloc_lt (w.setCell ⟨p, 2, none⟩ (.slice none 0 0)) (.map #[] 0) p (by rw [forgot_size]; exact hp)).trans h1
    exact set_row h2 3 (.map (some w.heap.size))
  · have h1 := MapAt.made (w.setCell ⟨p, 2, none⟩ (.slice none 0 0))
    rw [forgot_size] at h1
    refine (h1.kept (Below.heap_setCell _ _ _ _ (by show w.heap.size ≠ p; omega))).congr (fun k => rfl)
theorem Fr.forgot (w : World) (p a c : Nat) (v : Value) :
    Fr (Own p a c v) w (((w.setCell ⟨p, 2, none⟩ (.slice none 0 0)).alloc (.map #[] 0)).setCell ⟨p, 3, none⟩ (.map (some w.heap.size))) :=
  ⟨rfl, rfl, rfl, by simp [World.setCell], fun k hk hF => forgot_other w p k (fun e => hF (.inl e)) hk _ _ _⟩
end Dk
theorem forget_any (w : World) (p a c : Nat) (v : Value) (s : Dk.S) (h : Dk.At w p a c v s) :
    Calls Try.prog 68 #[.pointer (some ⟨p, 0, none⟩)] w fun e w' => e = .returned noResult ∧ Hid (Dk.At w' p a w.heap.size (.slice none 0 0) s.forget) ∧ Dk.Fr (Dk.Own p a c v) w w' := by
  have c2 := h.c2
  have c3 := h.c3
  have f2 := h.free 2
  have f3 := h.free 3
  have hmm := @run_makeMap Try.prog
  have c3' : ((w.setCell ⟨p, 2, none⟩ (.slice none 0 0)).alloc (.map #[] 0)).cell? ⟨p, 3, none⟩ = some (.map (some c)) := by
    rw [World.cell?_alloc_lt _ _ _ (by show p < (w.setCell ⟨p, 2, none⟩ _).heap.size; simp [World.setCell]; exact Dk.lt_of_some h.str)]
    simp [World.cell?, World.setCell, Array.getElem?_modify, h.str]
  have f3' : ((w.setCell ⟨p, 2, none⟩ (.slice none 0 0)).alloc (.map #[] 0)).frozen? ⟨p, 3, none⟩ = false := by
    rw [World.frozen?_of_block (Below.heap_alloc _ _ _ (by show p < (w.setCell ⟨p, 2, none⟩ _).heap.size; simp [World.setCell]; exact Dk.lt_of_some h.str))]
    simp [World.frozen?, World.setCell, Array.getElem?_modify, h.str]
  have H := Dk.At.forgot h
  have G := Dk.Fr.forgot w p a c v
  clear h
  go_enter Try.func68, Try.ntmps68
  go_wp2
  go_end0
  exact ⟨rfl, H, G⟩
end Go.Proofs.Ytogkaoiiddhdbaa
