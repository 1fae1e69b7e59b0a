/- Laws at the operations on sectors and writes: rows of 512 and 513 cells. -/
import Derived.Test.YtogkaoiiddhdbaaMake
import Derived.Deep.RegionHeld3
import Derived.StillTailTactics
import Derived.Deep.RegionLaw
namespace Go.Proofs.Ytogkaoiiddhdbaa
open Go.RowKit

namespace Dk
section
variable {w : World} {ops : Array Oper} {rest : List Oper} {o : Oper} {a : Act} {Q : Exit → Act → World → Prop}
/-- The cells of a write. -/
def wr (i : Int) (l : List UInt8) : List Value := .int .i64 i :: cells8 l
theorem length_wr (i : Int) (l : List UInt8) : (wr i l).length = l.length + 1 := by simp [wr, length_cells8]
theorem one_wr (i : Int) (l : List UInt8) : ∀ v ∈ wr i l, v.oneCell' = true := by
  intro v hv
  simp only [wr, List.mem_cons] at hv
  rcases hv with hv | hv
  · subst hv; rfl
  · exact one_cells8 l v hv
theorem flat_snoc (l : List (Int × List UInt8)) (i : Int) (b : List UInt8) : flat (l ++ [(i, b)]) = flat l ++ wr i b := by rw [flat_append]; simp [flat, wr]
theorem z77 (w : World) : (zeroValue 122).run Try.prog w = .ok (.agg (wr 0 zeros).toArray) w := by kernel_rfl
theorem run_build77 (i : Int) (w : World) : (Instr.build 122 #[(0, .int .i64 i)]).run Try.prog w = .ok (.agg (wr i zeros).toArray) w := by kernel_rfl
theorem wpList_build77 (hg : o.guard = none) (x : Operand) (hop : o.op = Op.build 122 #[(0, x)]) (i : Int) (hx : a.eval x = .int .i64 i)
    (hK : wpList Try.prog ops Q rest (a.put o.dst (.agg (wr i zeros).toArray)) w) : wpList Try.prog ops Q (o :: rest) a w := by
  refine wpList_plain hg fun K hK' => ?_
  unfold Oper.wp
  simp [execOp, hop, hx, run_build77, Result.andThen]
  exact hK' _ _ hK
/-- A new variable of a type of many cells. -/
theorem wpList_alloc (hg : o.guard = none) (t : TypeId) (hop : o.op = Op.alloc t) (cs : List Value) (hz : (zeroValue t).run Try.prog w = .ok (.agg cs.toArray) w)
    (hK : ∀ w', w'.heap[w.heap.size]? = some (.cells cs.toArray t (0, 0)) → Below w.heap.size w w' → w.heap.size < w'.heap.size → wpList Try.prog ops Q rest (a.put o.dst (.pointer (some ⟨w.heap.size, 0, none⟩))) w') : wpList Try.prog ops Q (o :: rest) a w := by
  refine wpList_plain hg fun K hK' => ?_
  have hr : (Instr.alloc t true (.tuple #[])).run Try.prog w = .ok (.pointer (some ⟨w.heap.size, 0, none⟩)) (w.alloc (.cells cs.toArray t)) := by
    simp [Instr.alloc, hz, newVar, newRow, Value.cells, go_sem]
  unfold Oper.wp
  simp [execOp, hop, hr, Result.andThen]
  exact hK' _ _ (hK _ (heap_alloc_new w _) ((Below.refl _ _).alloc (Nat.le_refl _) _) (by simp))
/-- A store of many cells into a row. -/
theorem run_store_row {g off : Nat} {cur : Array Value} {e t : TypeId} (hg : w.heap[g]? = some (.cells cur e (0, 0))) (cs : List Value) (hi : (Try.prog.info? t).map (·.size) = some cs.length) (hfit : off + cs.length ≤ cur.size) (h1 : ∀ v ∈ cs, v.oneCell' = true) :
    (Instr.storeAt t (.pointer (some ⟨g, off, none⟩)) (.agg cs.toArray)).run Try.prog w = .ok () (w.setRow g (cur.toList.take off ++ cs ++ cur.toList.drop (off + cs.length)).toArray) := by
  have hst := run_storeCells_at Try.prog g off e cs 0 cur w hg (by simpa using hfit) h1
  simp only [Nat.add_zero] at hst
  cases hq : Try.prog.info? t with
  | none => simp [hq] at hi
  | some i =>
    have hs : i.size = cs.length := by simpa [hq] using hi
    simp [Instr.storeAt, Instr.sureAddr, storeVar, sizeOf, typeInfo, hq, hs, Value.cells, hst]
theorem Fr.setRow (w : World) (g : Nat) (cs : Array Value) : Fr (· = g) w (w.setRow g cs) :=
  ⟨rfl, rfl, rfl, by simp, fun k _ hk => by
    simp only [World.setRow, Array.getElem?_modify]
    rw [if_neg (fun e => hk e.symm)]⟩
theorem wpList_store_row (hgd : o.guard = none) (t : TypeId) (x y : Operand) (hop : o.op = Op.store t x y) (g off : Nat) (hx : a.eval x = .pointer (some ⟨g, off, none⟩)) (cs : List Value) (hy : a.eval y = .agg cs.toArray)
    (cur : Array Value) (e : TypeId) (hg : w.heap[g]? = some (.cells cur e (0, 0))) (hi : (Try.prog.info? t).map (·.size) = some cs.length) (hfit : off + cs.length ≤ cur.size) (h1 : ∀ v ∈ cs, v.oneCell' = true)
    (hK : ∀ w', w'.heap[g]? = some (.cells (cur.toList.take off ++ cs ++ cur.toList.drop (off + cs.length)).toArray e (0, 0)) → Fr (· = g) w w' → wpList Try.prog ops Q rest (a.put o.dst undef) w') : wpList Try.prog ops Q (o :: rest) a w := by
  refine wpList_plain hgd fun K hK' => ?_
  have hr := run_store_row (w := w) (off := off) (t := t) hg cs hi hfit h1
  unfold Oper.wp execOp
  simp only [hop, hx, hy, Sem.run_bind, hr, Sem.run_pure, Result.andThen_ok]
  exact hK' _ _ (hK _ (setRow_heap w g cur _ e (0, 0) hg) (Fr.setRow w g _))
/-- A store over a whole row. -/
theorem wpList_store_whole (hgd : o.guard = none) (t : TypeId) (x y : Operand) (hop : o.op = Op.store t x y) (g : Nat) (hx : a.eval x = .pointer (some ⟨g, 0, none⟩)) (cs : List Value) (hy : a.eval y = .agg cs.toArray)
    (cur : Array Value) (e : TypeId) (hg : w.heap[g]? = some (.cells cur e (0, 0))) (hi : (Try.prog.info? t).map (·.size) = some cs.length) (hfit : cs.length = cur.size) (h1 : ∀ v ∈ cs, v.oneCell' = true)
    (hK : ∀ w', w'.heap[g]? = some (.cells cs.toArray e (0, 0)) → Fr (· = g) w w' → wpList Try.prog ops Q rest (a.put o.dst undef) w') : wpList Try.prog ops Q (o :: rest) a w :=
  wpList_store_row hgd t x y hop g 0 hx cs hy cur e hg hi (by omega) h1 fun w' h f => hK w' (by rw [h]; simp [hfit]) f
/-- copy into a row, from bytes. -/
theorem wpList_copy_row (hgd : o.guard = none) (d s : Operand) (hop : o.op = .call { callee := .builtin .copy, args := #[d, s], argTypes := #[40, 40] }) (g off dCap : Nat) (A : Option Addr) (sCap : Nat) (l : List UInt8) (hl : 0 < l.length)
    (hd : a.eval d = .slice (some ⟨g, off, none⟩) l.length dCap) (hs : a.eval s = .slice A l.length sCap) {G : Nat → Prop} (hb : Bts w G A l)
    (cur : Array Value) (t : TypeId) (hg : w.heap[g]? = some (.cells cur t (0, 0))) (hfit : off + l.length ≤ cur.size)
    (hK : ∀ w', w'.heap[g]? = some (.cells (cur.toList.take off ++ (cells8 l ++ cur.toList.drop (off + l.length))).toArray t (0, 0)) → Fr (· = g) w w' → wpList Try.prog ops Q rest (a.put o.dst (goInt l.length)) w') : wpList Try.prog ops Q (o :: rest) a w := by
  obtain ⟨b, bo, rfl, _, hc⟩ := hb hl
  refine wpList_copy_own hgd d s 40 40 hop 5 Try.underlying40 u8_size g off l.length dCap ⟨b, bo, none⟩ l.length sCap hd hs cur t hg (cells8 l) (by rw [length_cells8]; exact (Nat.min_self _).symm) ?_ (by rw [length_cells8]; exact hfit) (one_cells8 l) ?_
  · intro j v hv
    have hj : j < l.length := by
      have := (List.getElem?_eq_some_iff.1 hv).1
      rwa [length_cells8] at this
    rw [get_cells8 l j hj] at hv
    injection hv with hv
    subst hv
    rw [add_plain]
    exact hc j hj
  · rw [length_cells8]
    exact hK _ (setRow_heap w g cur _ t (0, 0) hg) (Fr.setRow w g _)
/-- copy of a sector into a write. -/
theorem wpList_copy_wr (hgd : o.guard = none) (d s : Operand) (hop : o.op = .call { callee := .builtin .copy, args := #[d, s], argTypes := #[40, 40] }) (g dCap : Nat) (A : Option Addr) (sCap : Nat) (l : List UInt8) (hl : l.length = 512)
    (hd : a.eval d = .slice (some ⟨g, 1, none⟩) 512 dCap) (hs : a.eval s = .slice A 512 sCap) {G : Nat → Prop} (hb : Bts w G A l) (i : Int)
    (hg : w.heap[g]? = some (.cells (wr i zeros).toArray 122 (0, 0)))
    (hK : ∀ w', w'.heap[g]? = some (.cells (wr i l).toArray 122 (0, 0)) → Fr (· = g) w w' → wpList Try.prog ops Q rest (a.put o.dst (goInt l.length)) w') : wpList Try.prog ops Q (o :: rest) a w :=
  wpList_copy_row hgd d s hop g 1 dCap A sCap l (by omega) (by rw [hl]; exact hd) (by rw [hl]; exact hs) hb _ _ hg (by rw [List.size_toArray, length_wr, length_zeros]; omega) fun w' h f => hK w' (by
    rw [h]
    have : (List.drop (1 + l.length) (wr i zeros)) = [] := List.drop_eq_nil_of_le (by rw [length_wr, length_zeros]; omega)
    simp only [this, List.append_nil]
    rfl) f
theorem foldSet : ∀ (l : List Value) (k : Nat) (cs : Array Value), k + l.length ≤ cs.size → ((l.zipIdx k).foldl (fun (cs : Array Value) x => cs.setIfInBounds (0 + x.2) x.1) cs).toList = cs.toList.take k ++ l ++ cs.toList.drop (k + l.length)
  | [], k, cs, _ => by simp
  | v :: r, k, cs, h => by
    simp only [List.length_cons] at h
    rw [List.zipIdx_cons, List.foldl_cons, foldSet r (k + 1) _ (by simp; omega)]
    simp only [Nat.zero_add, Array.toList_setIfInBounds, List.length_cons]
    have hk : k < cs.toList.length := by simp; omega
    rw [List.drop_set_of_lt (by omega), List.take_add_one, List.take_set_of_le (by omega)]
    rw [List.getElem?_set_self hk]
    simp [show k + 1 + r.length = k + (r.length + 1) by omega]
theorem i77' : Try.prog.info? 122 ≠ none := by
  intro h
  have := i77
  rw [h] at this
  cases this
theorem fill_whole (base : Array Value) (hb : base.size = 513) (cs : List Value) (hlen : cs.length = 513) : Instr.fill (fun i => some (i * 513, 513)) base [(0, .agg cs.toArray)] = some cs.toArray := by
  have hfold := foldSet cs 0 base (by omega)
  simp only [Instr.fill, Value.cells, List.size_toArray, hlen]
  rw [if_neg (by simp [hb])]
  congr 1
  apply Array.toList_inj.1
  rw [← Array.foldl_toList, Array.toList_zipIdx]
  simp only [Nat.zero_mul]
  rw [hfold, hlen, List.drop_eq_nil_of_le (by simp [hb])]
  simp
theorem run_buildSlice (i : Int) (l : List UInt8) (hl : l.length = 512) (w : World) : (Instr.buildSlice 85 1 #[(0, .agg (wr i l).toArray)]).run Try.prog w = .ok (.slice (some ⟨w.heap.size, 0, none⟩) 1 1) (w.alloc (.cells (wr i l).toArray 122)) := by
  cases hq : Try.prog.info? 122 with
  | none => exact absurd hq i77'
  | some inf =>
    have hs : inf.size = 513 := by have := i77; simpa [hq] using this
    have hlen : (wr i l).length = 513 := by rw [length_wr, hl]
    have hsz : (sizeOf 122).run Try.prog w = .ok 513 w := by simp [sizeOf, typeInfo, hq, hs]
    unfold Instr.buildSlice
    rw [Sem.run_bind, run_underlying u61]
    simp only [Result.andThen_ok]
    rw [Sem.run_bind, hsz]
    simp only [Result.andThen_ok]
    rw [if_neg (by omega), if_neg (by omega), Sem.run_bind, z77]
    simp only [Result.andThen_ok, Sem.run_bind, Sem.run_pure]
    rw [fill_whole _ (by simp) _ hlen]
    simp [newRow, go_sem]
theorem wp_buildSlice {K : Act → World → Prop} (x : Operand) (hop : o.op = Op.buildSlice 85 1 #[(0, x)]) (i : Int) (l : List UInt8) (hl : l.length = 512) (hx : a.eval x = .agg (wr i l).toArray)
    (hK : K (a.put o.dst (.slice (some ⟨w.heap.size, 0, none⟩) 1 1)) (w.alloc (.cells (wr i l).toArray 122))) : o.wp Try.prog a w K Q := by
  unfold Oper.wp
  simp [execOp, hop, hx, run_buildSlice i l hl, Result.andThen]
  exact hK
end
end Dk
end Go.Proofs.Ytogkaoiiddhdbaa
