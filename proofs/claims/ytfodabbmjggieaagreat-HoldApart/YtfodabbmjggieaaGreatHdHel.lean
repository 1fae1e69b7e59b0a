/- Own rows of seats with their holders. -/
import Derived.Test.YtfodabbmjggieaaGreatHdNew
namespace Go.Proofs.YtfodabbmjggieaaGreat
open Go.RowKit
set_option linter.unusedVariables false

namespace Hd
/-- A seat with its holder. -/
structure D where
  row : Int
  ltr : Int
  loc : ByteArray
  pax : Int
  deriving DecidableEq
instance : Inhabited D := ⟨⟨0, 0, ⟨#[]⟩, 0⟩⟩
def D.seat (d : D) : Int × Int := (d.row, d.ltr)
def D.hol (d : D) : H := ⟨d.loc, d.pax⟩
def encD (x : D) : List Value := [.int .i64 x.row, .int .u8 x.ltr, .string x.loc, .int .i64 x.pax]
theorem encD_len (x : D) : (encD x).length = 4 := rfl
theorem encD_one (x : D) : ∀ v ∈ encD x, v.oneCell' = true := by
  intro v hv
  simp only [encD, List.mem_cons, List.not_mem_nil, or_false] at hv
  rcases hv with rfl | rfl | rfl | rfl <;> rfl
def flatD (ls : List D) : List Value := ls.flatMap encD
theorem flatD_len : ∀ ls : List D, (flatD ls).length = ls.length * 4
  | [] => rfl
  | r :: rs => by rw [flatD, List.flatMap_cons, List.length_append, encD_len, ← flatD, flatD_len rs, List.length_cons]; omega
theorem flatD_append (a b : List D) : flatD (a ++ b) = flatD a ++ flatD b := by unfold flatD; exact List.flatMap_append
theorem flatD_one (r : D) : flatD [r] = encD r := by simp [flatD]
theorem flatD_get : ∀ (rs : List D) (j : Nat) (hj : j < rs.length) (i : Nat) (hi : i < 4), (flatD rs)[j * 4 + i]? = (encD rs[j])[i]?
  | r :: rs, 0, _, i, hi => by
    rw [flatD, List.flatMap_cons, Nat.zero_mul, Nat.zero_add, List.getElem?_append_left (by rw [encD_len]; exact hi)]
    rfl
  | r :: rs, j + 1, hj, i, hi => by
    rw [flatD, List.flatMap_cons, List.getElem?_append_right (by rw [encD_len]; omega), encD_len, ← flatD, show (j + 1) * 4 + i - 4 = j * 4 + i by omega, flatD_get rs j (by simpa using hj) i hi]
    rfl
/-- A row of legs of the call's own. -/
def OwnD (w : World) (base : Nat) (v : Value) (ls : List D) : Prop := w.ownsRow base 63 4 v ls.length (flatD ls)
theorem OwnD.below {w w' : World} {base : Nat} {v : Value} {ls : List D} (h : OwnD w base v ls) (hb : Below w.heap.size w w') : OwnD w' base v ls := by
  obtain ⟨h1, h2 | ⟨g, cap, cur, hv, hg, hh, h3⟩⟩ := h
  · exact ⟨h1, .inl h2⟩
  · exact ⟨h1, .inr ⟨g, cap, cur, hv, hg, (hb.block g (Rw.lt_of_some hh)).trans hh, h3⟩⟩
theorem OwnD.slice {w : World} {base : Nat} {v : Value} {ls : List D} (h : OwnD w base v ls) : ∃ A cap, v = .slice A ls.length cap := by
  obtain ⟨_, ⟨hv, h0⟩ | ⟨g, cap, cur, hv, _⟩⟩ := h
  · exact ⟨none, 0, by rw [hv, h0]⟩
  · exact ⟨_, _, hv⟩
/-- Leg j of an own row. -/
theorem OwnD.at {w : World} {base : Nat} {A : Option Addr} {n cap : Nat} {ls : List D} (h : OwnD w base (.slice A n cap) ls) (j : Nat) (hj : j < ls.length) : ∃ b, A = some ⟨b, 0, none⟩ ∧ b < w.heap.size ∧ base ≤ b ∧ w.cell? ⟨b, j * 4, none⟩ = some (.int .i64 ls[j].row) ∧ w.cell? ⟨b, j * 4 + 1, none⟩ = some (.int .u8 ls[j].ltr) ∧ w.cell? ⟨b, j * 4 + 2, none⟩ = some (.string ls[j].loc) ∧ w.cell? ⟨b, j * 4 + 3, none⟩ = some (.int .i64 ls[j].pax) := by
  obtain ⟨_, ⟨hv, h0⟩ | ⟨g, cap', cur, hv, hg, hh, hcap, _, hsz, htk⟩⟩ := h
  · omega
  · injection hv with e1 e2 e3
    have hc : ∀ i, i < 4 → w.cell? ⟨g, j * 4 + i, none⟩ = (encD ls[j])[i]? := fun i hi => by
      have := flatD_get ls j hj i hi
      rw [← htk, List.getElem?_take_of_lt (by omega)] at this
      rw [cell_of_row _ _ _ _ _ _ hh]
      simpa using this
    exact ⟨g, e1, Rw.lt_of_some hh, hg, hc 0 (by decide), hc 1 (by decide), hc 2 (by decide), hc 3 (by decide)⟩
theorem infoD : (Tryz.prog.info? 63).map (fun i => (i.zero, i.size, i.bytes)) = some (some (.agg (encD ⟨0, 0, ⟨#[]⟩, 0⟩).toArray), 4, 40) := by kernel_rfl
theorem infoD' : ∃ i, Tryz.prog.info? 63 = some i ∧ i.zero = some (.agg (encD ⟨0, 0, ⟨#[]⟩, 0⟩).toArray) ∧ i.size = 4 ∧ i.bytes = 40 := by
  obtain ⟨i, hi, h⟩ := Option.map_eq_some_iff.1 infoD
  simp only [Prod.mk.injEq] at h
  exact ⟨i, hi, h.1, h.2.1, h.2.2⟩
theorem run_buildD (x : D) (w : World) : (Instr.buildSlice 53 1 #[(0, .agg (encD x).toArray)]).run Tryz.prog w = .ok (.slice (some ⟨w.heap.size, 0, none⟩) 1 1) (w.alloc (.cells (encD x).toArray 63)) := by
  unfold encD
  simp [Instr.buildSlice, run_underlying Tryz.underlying53, Tryz.sizeOf63, go_sem, Instr.fill, newRow]
theorem run_appendD {w : World} {base : Nat} {v : Value} {ls : List D} (h : OwnD w base v ls) (x : D) (g : Nat) (hg : Rw.Blk w g 63 (encD x)) (hlen : ls.length < 100000) (hbase : base ≤ w.heap.size) (ty : TypeId) :
    ∃ v' w', (Builtin.append_ #[53, 53] ty #[v, .slice (some ⟨g, 0, none⟩) 1 1]).run Tryz.prog w = .ok v' w' ∧ OwnD w' base v' (ls ++ [x]) ∧ Below base w w' ∧ Rw.Fr (fun k => v.ownBlock = some k) w w' := by
  obtain ⟨i0, hi0, hz0, hz1, hz2⟩ := infoD'
  obtain ⟨v', w', hrun, hown', hgr, hnil, _⟩ := run_append_own_at (P := Tryz.prog) w base 53 ty 63 i0 (.agg (encD ⟨0, 0, ⟨#[]⟩, 0⟩).toArray) 4 40 Tryz.underlying53 hi0 hz0 hz1 hz2 rfl (by omega) v ls.length (flatD ls) h ⟨g, 0, none⟩ 1 1 (encD x) (by rw [encD_len]) (fun j u hu => by
    rw [Addr.add_mid, Nat.zero_add, hg.cell j]; exact hu) (encD_one x) (by unfold maxLen; omega) (by omega) hbase
  have hty : ∀ {k : Nat}, v.ownBlock = some k → base ≤ k := fun {k} hk => by
    obtain ⟨_, ⟨hv, h0⟩ | ⟨g, cap, cur, hv, hg, hh, _⟩⟩ := h
    · rw [hv] at hk; cases hk
    · rw [hv] at hk
      simp only [Value.ownBlock, Option.some.injEq] at hk
      subst hk
      exact hg
  refine ⟨v', w', hrun, ?_, ⟨hgr.os, hgr.tape, hgr.output, hgr.size, fun k hk => hgr.block k (by omega) (fun e => by have := hty e.symm; omega)⟩, ⟨hgr.os, hgr.tape, hgr.output, hgr.size, fun k hk hk2 => hgr.block k hk (fun e => hk2 e.symm)⟩⟩
  unfold OwnD
  rw [List.length_append, flatD_append, flatD_one]
  exact hown'
section
variable {w : World} {ops : Array Oper} {rest : List Oper} {o : Oper} {a : Act} {Q : Exit → Act → World → Prop}
theorem wpList_buildD (hg : o.guard = none) (y : Operand) (hop : o.op = Op.buildSlice 53 1 #[(0, y)]) (x : D) (hx : a.eval y = .agg #[.int .i64 x.row, .int .u8 x.ltr, .string x.loc, .int .i64 x.pax])
    (hK : ∀ w', Hid (Rw.Blk w' w.heap.size 63 (encD x)) → Below w.heap.size w w' → w.heap.size < w'.heap.size → wpList Tryz.prog ops Q rest (a.put o.dst (.slice (some ⟨w.heap.size, 0, none⟩) 1 1)) w') : wpList Tryz.prog ops Q (o :: rest) a w := by
  refine wpList_plain hg fun K hK' => ?_
  have hr := run_buildD x w
  unfold encD at hr
  unfold Oper.wp
  simp [execOp, hop, hx, hr, Result.andThen]
  exact hK' _ _ (hK _ (heap_alloc_new w _) ((Below.refl _ _).alloc (Nat.le_refl _) _) (by simp))
theorem OwnD.cells {w : World} {base : Nat} {v : Value} {ls : List D} (h : OwnD w base v ls) {k : Nat} (hk : v.ownBlock = some k) : base ≤ k ∧ ∃ cur, w.heap[k]? = some (.cells cur 63 (0, 0)) := by
  obtain ⟨_, ⟨hv, h0⟩ | ⟨g, cap, cur, hv, hg, hh, _⟩⟩ := h
  · rw [hv] at hk; cases hk
  · rw [hv] at hk
    simp only [Value.ownBlock, Option.some.injEq] at hk
    subst hk
    exact ⟨hg, cur, hh⟩
theorem wpList_appendD (hgd : o.guard = none) (s x : Operand)
    (ho : o.op = .call { callee := .builtin .append, args := #[s, x], argTypes := #[53, 53] })
    (base : Nat) (v : Value) (ls : List D) (y : D) (hown : OwnD w base v ls) (hs : a.eval s = v) (g : Nat) (hx : a.eval x = .slice (some ⟨g, 0, none⟩) 1 1) (hg : Rw.Blk w g 63 (encD y))
    (hlen : ls.length < 100000) (hbase : base ≤ w.heap.size)
    (h : ∀ v' w', Hid (OwnD w' base v' (ls ++ [y])) → Hid (Below base w w') → Hid (∀ k, k < w.heap.size → (∀ cur, w.heap[k]? ≠ some (.cells cur 63 (0, 0))) → w'.heap[k]? = w.heap[k]?) → wpList Tryz.prog ops Q rest (a.put o.dst v') w') : wpList Tryz.prog ops Q (o :: rest) a w := by
  obtain ⟨v', w', hrun, h1, h2, h3⟩ := run_appendD hown y g hg hlen hbase o.type
  refine wpList_plain hgd fun K hK' => ?_
  unfold Oper.wp execOp
  simp only [ho, resolve, invoke, builtin, Sem.run_bind, Sem.run_pure, Result.andThen_ok, List.map_toArray, List.map_cons, List.map_nil, hs, hx, hrun]
  refine hK' _ _ (h v' w' h1 h2 fun k hk hne => h3.block k hk fun e => ?_)
  obtain ⟨_, cur, hc⟩ := hown.cells e
  exact hne cur hc
end
end Hd
end Go.Proofs.YtfodabbmjggieaaGreat
