/- Laws at single operations, for the steps of regions that draw their order. -/
import Derived.Test.YtonfkonjkgalhaaDoorPlTab
import Derived.Deep.RegionHeld3
namespace Go.Proofs.YtonfkonjkgalhaaDoor
open Go.RowKit Go.WideMaps
set_option linter.unusedVariables false

namespace Rw
section
variable {w : World} {o : Oper} {a : Act} {K : Act → World → Prop} {Q : Exit → Act → World → Prop}
theorem wp_alloc (t : TypeId) (hop : o.op = Op.alloc t) (cs : List Value) (hz : ∀ w, (zeroValue t).run Tryd.prog w = .ok (.agg cs.toArray) w)
    (hK : ∀ w', Blk w' w.heap.size t cs → Below w.heap.size w w' → w'.heap.size = w.heap.size + 1 → K (a.put o.dst (.pointer (some ⟨w.heap.size, 0, none⟩))) w') : Oper.wp Tryd.prog o a w K Q := by
  have hr : (Instr.alloc t true (.tuple #[])).run Tryd.prog w = .ok (.pointer (some ⟨w.heap.size, 0, none⟩)) (w.alloc (.cells cs.toArray t)) := by
    simp [Instr.alloc, hz, newVar, newRow, Value.cells, go_sem]
  unfold Oper.wp
  simp [execOp, hop, hr, Result.andThen]
  exact hK _ (heap_alloc_new w _) ((Below.refl _ _).alloc (Nat.le_refl _) _) (by simp)
theorem wp_store_whole (t : TypeId) (x y : Operand) (hop : o.op = Op.store t x y) (g : Nat) (hx : a.eval x = .pointer (some ⟨g, 0, none⟩)) (cs : List Value) (hy : a.eval y = .agg cs.toArray)
    (cur : List Value) (e : TypeId) (hg : Blk w g e cur) (hi : (Tryd.prog.info? t).map (·.size) = some cs.length) (hfit : cs.length = cur.length) (h1 : ∀ v ∈ cs, v.oneCell' = true)
    (hK : ∀ w', Blk w' g e cs → Fr (· = g) w w' → K (a.put o.dst undef) w') : Oper.wp Tryd.prog o a w K Q := by
  have hr := run_store_row (w := w) (off := 0) (t := t) hg cs hi (by simp [hfit]) h1
  unfold Oper.wp execOp
  simp only [hop, hx, hy, Sem.run_bind, hr, Sem.run_pure, Result.andThen_ok]
  refine hK _ ?_ (Fr.setRow w g _)
  unfold Blk
  rw [setRow_heap w g cur.toArray _ e (0, 0) hg]
  simp [hfit]
theorem wp_store_one (t : TypeId) (x y : Operand) (hop : o.op = Op.store t x y) (g j : Nat) (hx : a.eval x = .pointer (some ⟨g, j, none⟩)) (v : Value) (hy : a.eval y = v) (hv : v.cells = #[v])
    (cur : List Value) (e : TypeId) (hg : Blk w g e cur) (hi : (Tryd.prog.info? t).map (·.size) = some 1) (hj : j < cur.length) (h1 : v.oneCell' = true)
    (hK : ∀ w', Blk w' g e (cur.set j v) → Fr (· = g) w w' → K (a.put o.dst undef) w') : Oper.wp Tryd.prog o a w K Q := by
  have hst := run_storeCells_at Tryd.prog g j e [v] 0 cur.toArray w hg (by simp; omega) (by simp [h1])
  simp only [Nat.add_zero] at hst
  cases hq : Tryd.prog.info? t with
  | none => simp [hq] at hi
  | some i =>
    have hs : i.size = 1 := by simpa [hq] using hi
    have hr : (Instr.storeAt t (.pointer (some ⟨g, j, none⟩)) v).run Tryd.prog w = .ok () (w.setRow g (cur.take j ++ [v] ++ cur.drop (j + 1)).toArray) := by
      simp [Instr.storeAt, Instr.sureAddr, storeVar, sizeOf, typeInfo, hq, hs, hv, hst]
    unfold Oper.wp execOp
    simp only [hop, hx, hy, Sem.run_bind, hr, Sem.run_pure, Result.andThen_ok]
    refine hK _ ?_ (Fr.setRow w g _)
    unfold Blk
    rw [setRow_heap w g cur.toArray _ e (0, 0) hg, List.set_eq_take_append_cons_drop, if_pos hj]
    simp
/-- append of one seat. -/
theorem wp_appendS (s x : Operand) (ho : o.op = .call { callee := .builtin .append, args := #[s, x], argTypes := #[30, 30] })
    (base : Nat) (v : Value) (l : List Pl.S) (st : Pl.S) (hown : Pl.OwnS w base v l) (hs : a.eval s = v) (g : Nat) (hx : a.eval x = .slice (some ⟨g, 0, none⟩) 1 1) (hg : Pl.Sc st g 0 w)
    (hlen : l.length < 100000) (hbase : base ≤ w.heap.size) (n : Nat) (hn : n = l.length + 1)
    (hK : ∀ A cap w', Hid (Pl.OwnS w' base (.slice A n cap) (l ++ [st])) → Hid (Below base w w') → Hid (∀ k, k < w.heap.size → v.ownBlock ≠ some k → w'.heap[k]? = w.heap[k]?) → K (a.put o.dst (.slice A n cap)) w') : Oper.wp Tryd.prog o a w K Q := by
  subst hn
  obtain ⟨A, cap, w', hrun, hO, hb, hkp⟩ := Pl.run_appendS o.type base v l st hown g hg hlen hbase
  unfold Oper.wp execOp
  simp only [ho, resolve, invoke, builtin, Sem.run_bind, Sem.run_pure, Result.andThen_ok, List.map_toArray, List.map_cons, List.map_nil, hs, hx, hrun]
  exact hK A cap w' hO hb hkp
/-- mapUpdate. -/
theorem wp_mapUpdate (t : TypeId) (m k v : Operand) (hop : o.op = Op.mapUpdate t m k v) (r : Nat) (hm : a.eval m = .map (some r)) (key val : Value) (hk : a.eval k = key) (hv : a.eval v = val) (w' : World)
    (hrun : (Instr.mapUpdate t (.map (some r)) key val).run Tryd.prog w = .ok () w') (hK : K (a.put o.dst undef) w') : Oper.wp Tryd.prog o a w K Q := by
  unfold Oper.wp execOp
  simp only [hop, hm, hk, hv, Sem.run_bind, hrun, Sem.run_pure, Result.andThen_ok]
  exact hK
theorem wpList_appendS {ops : Array Oper} {rest : List Oper} (hgd : o.guard = none) (s x : Operand) (ho : o.op = .call { callee := .builtin .append, args := #[s, x], argTypes := #[30, 30] })
    (base : Nat) (v : Value) (l : List Pl.S) (st : Pl.S) (hown : Pl.OwnS w base v l) (hs : a.eval s = v) (g : Nat) (hx : a.eval x = .slice (some ⟨g, 0, none⟩) 1 1) (hg : Pl.Sc st g 0 w)
    (hlen : l.length < 100000) (hbase : base ≤ w.heap.size) (n : Nat) (hn : n = l.length + 1)
    (hK : ∀ A cap w', Hid (Pl.OwnS w' base (.slice A n cap) (l ++ [st])) → Hid (Below base w w') → Hid (∀ k, k < w.heap.size → v.ownBlock ≠ some k → w'.heap[k]? = w.heap[k]?) → wpList Tryd.prog ops Q rest (a.put o.dst (.slice A n cap)) w') : wpList Tryd.prog ops Q (o :: rest) a w :=
  wpList_plain hgd fun K hK' => wp_appendS s x ho base v l st hown hs g hx hg hlen hbase n hn fun A cap w' h1 h2 h3 => hK' _ _ (hK A cap w' h1 h2 h3)
end
end Rw
end Go.Proofs.YtonfkonjkgalhaaDoor
