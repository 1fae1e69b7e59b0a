/- Own rows of legs. -/
import Derived.Test.YtfodabbmjggieaaGreatHdKey
import Derived.Test.YtfodabbmjggieaaGreatG1
import Derived.Maps.AppendAt
import Derived.OwnWalk
namespace Go.Proofs.YtfodabbmjggieaaGreat
open Go.RowKit
set_option linter.unusedVariables false

namespace Hd
instance : Inhabited L := ⟨⟨⟨#[]⟩, 0, 0⟩⟩
def encL (x : L) : List Value := [.string x.car, .int .i64 x.num, .int .i64 x.day]
theorem encL_len (x : L) : (encL x).length = 3 := rfl
theorem encL_one (x : L) : ∀ v ∈ encL x, v.oneCell' = true := by
  intro v hv
  simp only [encL, List.mem_cons, List.not_mem_nil, or_false] at hv
  rcases hv with rfl | rfl | rfl <;> rfl
def flatL (ls : List L) : List Value := ls.flatMap encL
theorem flatL_len : ∀ ls : List L, (flatL ls).length = ls.length * 3
  | [] => rfl
  | r :: rs => by rw [flatL, List.flatMap_cons, List.length_append, encL_len, ← flatL, flatL_len rs, List.length_cons]; omega
theorem flatL_append (a b : List L) : flatL (a ++ b) = flatL a ++ flatL b := by unfold flatL; exact List.flatMap_append
theorem flatL_one (r : L) : flatL [r] = encL r := by simp [flatL]
theorem flatL_get : ∀ (rs : List L) (j : Nat) (hj : j < rs.length) (i : Nat) (hi : i < 3), (flatL rs)[j * 3 + i]? = (encL rs[j])[i]?
  | r :: rs, 0, _, i, hi => by
    rw [flatL, List.flatMap_cons, Nat.zero_mul, Nat.zero_add, List.getElem?_append_left (by rw [encL_len]; exact hi)]
    rfl
  | r :: rs, j + 1, hj, i, hi => by
    rw [flatL, List.flatMap_cons, List.getElem?_append_right (by rw [encL_len]; omega), encL_len, ← flatL, show (j + 1) * 3 + i - 3 = j * 3 + i by omega, flatL_get rs j (by simpa using hj) i hi]
    rfl
/-- A row of legs of the call's own. -/
def OwnL (w : World) (base : Nat) (v : Value) (ls : List L) : Prop := w.ownsRow base 35 3 v ls.length (flatL ls)
theorem OwnL.below {w w' : World} {base : Nat} {v : Value} {ls : List L} (h : OwnL w base v ls) (hb : Below w.heap.size w w') : OwnL w' base v ls := by
  obtain ⟨h1, h2 | ⟨g, cap, cur, hv, hg, hh, h3⟩⟩ := h
  · exact ⟨h1, .inl h2⟩
  · exact ⟨h1, .inr ⟨g, cap, cur, hv, hg, (hb.block g (Rw.lt_of_some hh)).trans hh, h3⟩⟩
theorem OwnL.slice {w : World} {base : Nat} {v : Value} {ls : List L} (h : OwnL w base v ls) : ∃ A cap, v = .slice A ls.length cap := by
  obtain ⟨_, ⟨hv, h0⟩ | ⟨g, cap, cur, hv, _⟩⟩ := h
  · exact ⟨none, 0, by rw [hv, h0]⟩
  · exact ⟨_, _, hv⟩
/-- Leg j of an own row. -/
theorem OwnL.at {w : World} {base : Nat} {A : Option Addr} {n cap : Nat} {ls : List L} (h : OwnL w base (.slice A n cap) ls) (j : Nat) (hj : j < ls.length) : ∃ b, A = some ⟨b, 0, none⟩ ∧ b < w.heap.size ∧ base ≤ b ∧ w.cell? ⟨b, j * 3, none⟩ = some (.string ls[j].car) ∧ w.cell? ⟨b, j * 3 + 1, none⟩ = some (.int .i64 ls[j].num) ∧ w.cell? ⟨b, j * 3 + 2, none⟩ = some (.int .i64 ls[j].day) := by
  obtain ⟨_, ⟨hv, h0⟩ | ⟨g, cap', cur, hv, hg, hh, hcap, _, hsz, htk⟩⟩ := h
  · omega
  · injection hv with e1 e2 e3
    have hc : ∀ i, i < 3 → w.cell? ⟨g, j * 3 + i, none⟩ = (encL ls[j])[i]? := fun i hi => by
      have := flatL_get ls j hj i hi
      rw [← htk, List.getElem?_take_of_lt (by omega)] at this
      rw [cell_of_row _ _ _ _ _ _ hh]
      simpa using this
    exact ⟨g, e1, Rw.lt_of_some hh, hg, hc 0 (by decide), hc 1 (by decide), hc 2 (by decide)⟩
theorem infoL : (Tryz.prog.info? 35).map (fun i => (i.zero, i.size, i.bytes)) = some (some (.agg (encL ⟨⟨#[]⟩, 0, 0⟩).toArray), 3, 32) := by kernel_rfl
theorem infoL' : ∃ i, Tryz.prog.info? 35 = some i ∧ i.zero = some (.agg (encL ⟨⟨#[]⟩, 0, 0⟩).toArray) ∧ i.size = 3 ∧ i.bytes = 32 := by
  obtain ⟨i, hi, h⟩ := Option.map_eq_some_iff.1 infoL
  simp only [Prod.mk.injEq] at h
  exact ⟨i, hi, h.1, h.2.1, h.2.2⟩
theorem run_buildL (x : L) (w : World) : (Instr.buildSlice 57 1 #[(0, .agg (encL x).toArray)]).run Tryz.prog w = .ok (.slice (some ⟨w.heap.size, 0, none⟩) 1 1) (w.alloc (.cells (encL x).toArray 35)) := by
  unfold encL
  simp [Instr.buildSlice, run_underlying Tryz.underlying57, Tryz.sizeOf35, go_sem, Instr.fill, newRow]
theorem run_appendL {w : World} {base : Nat} {v : Value} {ls : List L} (h : OwnL w base v ls) (x : L) (g : Nat) (hg : Rw.Blk w g 35 (encL x)) (hlen : ls.length < 100000) (hbase : base ≤ w.heap.size) (ty : TypeId) :
    ∃ v' w', (Builtin.append_ #[57, 57] ty #[v, .slice (some ⟨g, 0, none⟩) 1 1]).run Tryz.prog w = .ok v' w' ∧ OwnL w' base v' (ls ++ [x]) ∧ Below base w w' ∧ Rw.Fr (fun k => v.ownBlock = some k) w w' := by
  obtain ⟨i0, hi0, hz0, hz1, hz2⟩ := infoL'
  obtain ⟨v', w', hrun, hown', hgr, hnil, _⟩ := run_append_own_at (P := Tryz.prog) w base 57 ty 35 i0 (.agg (encL ⟨⟨#[]⟩, 0, 0⟩).toArray) 3 32 Tryz.underlying57 hi0 hz0 hz1 hz2 rfl (by omega) v ls.length (flatL ls) h ⟨g, 0, none⟩ 1 1 (encL x) (by rw [encL_len]) (fun j u hu => by
    rw [Addr.add_mid, Nat.zero_add, hg.cell j]; exact hu) (encL_one x) (by unfold maxLen; omega) (by omega) hbase
  have hty : ∀ {k : Nat}, v.ownBlock = some k → base ≤ k := fun {k} hk => by
    obtain ⟨_, ⟨hv, h0⟩ | ⟨g, cap, cur, hv, hg, hh, _⟩⟩ := h
    · rw [hv] at hk; cases hk
    · rw [hv] at hk
      simp only [Value.ownBlock, Option.some.injEq] at hk
      subst hk
      exact hg
  refine ⟨v', w', hrun, ?_, ⟨hgr.os, hgr.tape, hgr.output, hgr.size, fun k hk => hgr.block k (by omega) (fun e => by have := hty e.symm; omega)⟩, ⟨hgr.os, hgr.tape, hgr.output, hgr.size, fun k hk hk2 => hgr.block k hk (fun e => hk2 e.symm)⟩⟩
  unfold OwnL
  rw [List.length_append, flatL_append, flatL_one]
  exact hown'
section
variable {w : World} {ops : Array Oper} {rest : List Oper} {o : Oper} {a : Act} {Q : Exit → Act → World → Prop}
theorem wpList_buildL (hg : o.guard = none) (y : Operand) (hop : o.op = Op.buildSlice 57 1 #[(0, y)]) (x : L) (hx : a.eval y = .agg #[.string x.car, .int .i64 x.num, .int .i64 x.day])
    (hK : ∀ w', Hid (Rw.Blk w' w.heap.size 35 (encL x)) → Below w.heap.size w w' → w.heap.size < w'.heap.size → wpList Tryz.prog ops Q rest (a.put o.dst (.slice (some ⟨w.heap.size, 0, none⟩) 1 1)) w') : wpList Tryz.prog ops Q (o :: rest) a w := by
  refine wpList_plain hg fun K hK' => ?_
  have hr := run_buildL x w
  unfold encL at hr
  unfold Oper.wp
  simp [execOp, hop, hx, hr, Result.andThen]
  exact hK' _ _ (hK _ (heap_alloc_new w _) ((Below.refl _ _).alloc (Nat.le_refl _) _) (by simp))
theorem OwnL.cells {w : World} {base : Nat} {v : Value} {ls : List L} (h : OwnL w base v ls) {k : Nat} (hk : v.ownBlock = some k) : base ≤ k ∧ ∃ cur, w.heap[k]? = some (.cells cur 35 (0, 0)) := by
  obtain ⟨_, ⟨hv, h0⟩ | ⟨g, cap, cur, hv, hg, hh, _⟩⟩ := h
  · rw [hv] at hk; cases hk
  · rw [hv] at hk
    simp only [Value.ownBlock, Option.some.injEq] at hk
    subst hk
    exact ⟨hg, cur, hh⟩
theorem wpList_appendL (hgd : o.guard = none) (s x : Operand)
    (ho : o.op = .call { callee := .builtin .append, args := #[s, x], argTypes := #[57, 57] })
    (base : Nat) (v : Value) (ls : List L) (y : L) (hown : OwnL w base v ls) (hs : a.eval s = v) (g : Nat) (hx : a.eval x = .slice (some ⟨g, 0, none⟩) 1 1) (hg : Rw.Blk w g 35 (encL y))
    (hlen : ls.length < 100000) (hbase : base ≤ w.heap.size)
    (h : ∀ v' w', Hid (OwnL w' base v' (ls ++ [y])) → Hid (Below base w w') → Hid (∀ k, k < w.heap.size → (∀ cur, w.heap[k]? ≠ some (.cells cur 35 (0, 0))) → w'.heap[k]? = w.heap[k]?) → wpList Tryz.prog ops Q rest (a.put o.dst v') w') : wpList Tryz.prog ops Q (o :: rest) a w := by
  obtain ⟨v', w', hrun, h1, h2, h3⟩ := run_appendL hown y g hg hlen hbase o.type
  refine wpList_plain hgd fun K hK' => ?_
  unfold Oper.wp execOp
  simp only [ho, resolve, invoke, builtin, Sem.run_bind, Sem.run_pure, Result.andThen_ok, List.map_toArray, List.map_cons, List.map_nil, hs, hx, hrun]
  refine hK' _ _ (h v' w' h1 h2 fun k hk hne => h3.block k hk fun e => ?_)
  obtain ⟨_, cur, hc⟩ := hown.cells e
  exact hne cur hc
end
end Hd
end Go.Proofs.YtfodabbmjggieaaGreat
