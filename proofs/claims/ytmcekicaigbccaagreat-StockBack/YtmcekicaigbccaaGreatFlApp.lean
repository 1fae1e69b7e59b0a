/- append to own flights; contract of copies. -/
import Derived.Test.YtmcekicaigbccaaGreatFlCopy
import Derived.Maps.AppendAt
import Derived.OwnWalk
namespace Go.Proofs.YtmcekicaigbccaaGreat
open Go.RowKit
set_option linter.unusedVariables false

namespace Fl
theorem infoF : (Tryz.prog.info? 62).map (fun i => (i.zero, i.size, i.bytes)) = some (some (.agg (enc r0).toArray), 9, 112) := by kernel_rfl
theorem infoF' : ∃ i, Tryz.prog.info? 62 = some i ∧ i.zero = some (.agg (enc r0).toArray) ∧ i.size = 9 ∧ i.bytes = 112 := by
  obtain ⟨i, hi, h⟩ := Option.map_eq_some_iff.1 infoF
  simp only [Prod.mk.injEq] at h
  exact ⟨i, hi, h.1, h.2.1, h.2.2⟩
theorem Own.ownTy {w : World} {base : Nat} {v : Value} {rs : List R} (h : Own w base v rs) {k : Nat} (hk : v.ownBlock = some k) : base ≤ k ∧ ∃ cur, w.heap[k]? = some (.cells cur 62 (0, 0)) := by
  obtain ⟨_, ⟨hv, h0⟩ | ⟨g, cap, cur, hv, hg, hh, _⟩⟩ := h.row
  · rw [hv] at hk; cases hk
  · rw [hv] at hk
    simp only [Value.ownBlock, Option.some.injEq] at hk
    subst hk
    exact ⟨hg, cur, hh⟩
theorem wpList_appendFl {w1 : World} {ops : Array Oper} {rest : List Oper} {o : Oper} {a : Act} {Q : Exit → Act → World → Prop} (hgd : o.guard = none) (s x : Operand)
    (ho : o.op = .call { callee := .builtin .append, args := #[s, x], argTypes := #[22, 22] })
    (base : Nat) (v : Value) (rs : List R) (r : R) (hown : Own w1 base v rs) (hr : CNew w1 base w1.heap.size r.A r.f.cls) (hwr : Wf r) (hs : a.eval s = v) (g : Nat) (hx : a.eval x = .slice (some ⟨g, 0, none⟩) 1 1) (hg : Rw.Blk w1 g 62 (enc r))
    (hlen : rs.length < 4000) (hbase : base ≤ w1.heap.size) (n : Nat) (hn : n = rs.length + 1)
    (h : ∀ A' cap' w', Hid (Own w' base (.slice A' n cap') (rs ++ [r])) → Hid (Below base w1 w') → wpList Tryz.prog ops Q rest (a.put o.dst (.slice A' n cap')) w') : wpList Tryz.prog ops Q (o :: rest) a w1 := by
  subst hn
  obtain ⟨i0, hi0, hz0, hz1, hz2⟩ := infoF'
  obtain ⟨v', w', hrun, hown', hgr, hnil, _⟩ := run_append_own_at (P := Tryz.prog) w1 base 22 o.type 62 i0 (.agg (enc r0).toArray) 9 112 Tryz.underlying22 hi0 hz0 hz1 hz2 rfl (by omega) v rs.length (flat rs) hown.row ⟨g, 0, none⟩ 1 1 (enc r) (by rw [enc_len]) (fun j u hu => by
    rw [Addr.add_mid, Nat.zero_add, hg.cell j]; exact hu) (enc_one r) (by unfold maxLen; omega) (by omega) hbase
  have hb : Below base w1 w' := ⟨hgr.os, hgr.tape, hgr.output, hgr.size, fun k hk => hgr.block k (by omega) (fun e => by have := (hown.ownTy e.symm).1; omega)⟩
  have hkeep : ∀ k cur, base ≤ k → k < w1.heap.size → w1.heap[k]? = some (.cells cur 59 (0, 0)) → w'.heap[k]? = w1.heap[k]? := fun k cur h0 h1 hh => hgr.block k h1 (fun e => by
    obtain ⟨_, cur', hh'⟩ := hown.ownTy e.symm
    rw [hh] at hh'
    cases hh')
  have hO : Own w' base v' (rs ++ [r]) := by
    refine ⟨by rw [List.length_append, flat_append, flat_one]; exact hown', fun q hq => ?_, fun q hq => ?_⟩
    · rcases List.mem_append.1 hq with hq | hq
      · exact ((hown.cls q hq).kept hkeep).more (Nat.le_refl _) hgr.size
      · simp at hq; subst hq
        exact (hr.kept hkeep).more (Nat.le_refl _) hgr.size
    · rcases List.mem_append.1 hq with hq | hq
      · exact hown.wf q hq
      · simp at hq; subst hq; exact hwr
  obtain ⟨A', cap', hv, _⟩ := hO.fls
  rw [List.length_append] at hv
  simp only [List.length_cons, List.length_nil, Nat.zero_add] at hv
  refine wpList_plain hgd fun K hK' => ?_
  unfold Oper.wp execOp
  simp only [ho, resolve, invoke, builtin, Sem.run_bind, Sem.run_pure, Result.andThen_ok, List.map_toArray, List.map_cons, List.map_nil, hs, hx, hrun]
  rw [hv] at hO ⊢
  exact hK' _ _ (h A' cap' w' hO hb)
theorem Own.nil {w : World} {base : Nat} {v : Value} (h : w.ownsRow base 62 9 v 0 []) : Own w base v [] := ⟨h, by simp, by simp⟩
/-- The flights, in memory of the call's own. -/
def CopiesIs (w : World) (fs : List F) (e : Ending) (w' : World) : Prop :=
  ∃ A cap rs, e = .returned (.slice A fs.length cap) ∧ rs.map R.f = fs ∧ Own w' w.heap.size (.slice A fs.length cap) rs ∧ Below w.heap.size w w'
end Fl
end Go.Proofs.YtmcekicaigbccaaGreat
