/- The statements' Maps. -/
import Derived.Test.YtfodabbmjggieaaGreatHdOn
import Derived.Test.YtfodabbmjggieaaGreatG3
import Derived.Deep.Cut
namespace Go.Proofs.YtfodabbmjggieaaGreat
open Go.RowKit Go.WideMaps
set_option linter.unusedVariables false

namespace Rw
theorem wpList_load_guarded {ops : Array Oper} {rest : List Oper} {op : Oper} {a : Act} {w : World} {Q : Exit → Act → World → Prop} (hw : Region.wanted op (yielded ops a.tmps) = true) (ty : TypeId) (x : Operand) (ho : op.op = .load ty x)
    (b o : Nat) (hx : a.eval x = .pointer (some ⟨b, o, none⟩)) (cs : List Value) (d : TypeDesc) (hc : w.rangeAt b o cs)
    (hu : Tryz.prog.underlying ty = some d) (hd : d.isRow = true) (hi : (Tryz.prog.info? ty).map (·.size) = some cs.length)
    (h : wpList Tryz.prog ops Q rest (a.put op.dst (.agg cs.toArray)) w) : wpList Tryz.prog ops Q (op :: rest) a w :=
  wpList_step fun K hK => by
    rw [if_pos hw]
    exact wp_load_mid ty x ho b o hx cs d hc hu hd hi (hK _ _ h)
end Rw
namespace Hd
/-- The slice at A holds the plans ps. -/
structure Plns (w : World) (B : Nat) (A : Option Addr) (ps : List Pl.R) : Prop where
  row : 0 < ps.length → ∃ b off, A = some ⟨b, off, none⟩ ∧ b < B ∧ ∀ j (hj : j < ps.length), w.rangeAt b (off + j * 5) (Pl.enc ps[j])
  ints : ∀ r ∈ ps, Pl.Ints w B r.eA r.p.ex
  sts : ∀ r ∈ ps, Pl.Sts w B r.bA r.p.bl
  wf : ∀ r ∈ ps, Pl.Wf r
theorem Plns.below {w w' : World} {B B' : Nat} {A : Option Addr} {ps : List Pl.R} (h : Plns w B A ps) (hb : Below B' w w') (hB : B ≤ B') : Plns w' B A ps where
  row hl := by
    obtain ⟨b, off, e, hb', hc⟩ := h.row hl
    exact ⟨b, off, e, hb', fun j hj i v hv => (hb.cell (p := ⟨b, _, none⟩) (show b < B' by omega)).trans (hc j hj i v hv)⟩
  ints r hr := (h.ints r hr).below hb hB
  sts r hr := (h.sts r hr).below hb hB
  wf := h.wf
def pOk (r : Pl.R) : Bool := decide (r.p.lt.size ≤ 30) && decide (r.p.ex.length ≤ 60) && Pl.right r.p
/-- There are maps of these plans. -/
def MapsOk (ps : List Pl.R) : Prop := ps.length ≤ 8 ∧ ∀ r ∈ ps, pOk r = true
theorem infoP : (Tryz.prog.info? 96).map (fun i => (i.zero, i.size, i.bytes)) = some (some (.pointer none), 1, 8) := by kernel_rfl
theorem infoP' : ∃ i, Tryz.prog.info? 96 = some i ∧ i.zero = some (.pointer none) ∧ i.size = 1 ∧ i.bytes = 8 := by
  obtain ⟨i, hi, h⟩ := Option.map_eq_some_iff.1 infoP
  simp only [Prod.mk.injEq] at h
  exact ⟨i, hi, h.1, h.2.1, h.2.2⟩
theorem run_appendP {w : World} {base : Nat} {v : Value} {gs : List (Nat × Pl.P)} (h : OwnP w base v gs) (x : Nat × Pl.P) (g : Nat) (hg : Rw.Blk w g 96 [.pointer (some ⟨x.1, 0, none⟩)]) (hlen : gs.length < 100000) (hbase : base ≤ w.heap.size) (ty : TypeId) :
    ∃ v' w', (Builtin.append_ #[76, 76] ty #[v, .slice (some ⟨g, 0, none⟩) 1 1]).run Tryz.prog w = .ok v' w' ∧ OwnP w' base v' (gs ++ [x]) ∧ Below base w w' ∧ Rw.Fr (fun k => v.ownBlock = some k) w w' := by
  obtain ⟨i0, hi0, hz0, hz1, hz2⟩ := infoP'
  obtain ⟨v', w', hrun, hown', hgr, hnil, _⟩ := run_append_own_at (P := Tryz.prog) w base 76 ty 96 i0 (.pointer none) 1 8 Tryz.underlying76 hi0 hz0 hz1 hz2 rfl (by omega) v gs.length (ptrs gs) h ⟨g, 0, none⟩ 1 1 [.pointer (some ⟨x.1, 0, none⟩)] rfl (fun j u hu => by
    rw [Addr.add_mid, Nat.zero_add, hg.cell j]; exact hu) (by intro v hv; simp at hv; subst hv; rfl) (by unfold maxLen; omega) (by omega) hbase
  have hty : ∀ {k : Nat}, v.ownBlock = some k → base ≤ k := fun {k} hk => by
    obtain ⟨_, ⟨hv, h0⟩ | ⟨g, cap, cur, hv, hg, hh, _⟩⟩ := h
    · rw [hv] at hk; cases hk
    · rw [hv] at hk
      simp only [Value.ownBlock, Option.some.injEq] at hk
      subst hk
      exact hg
  refine ⟨v', w', hrun, ?_, ⟨hgr.os, hgr.tape, hgr.output, hgr.size, fun k hk => hgr.block k (by omega) (fun e => by have := hty e.symm; omega)⟩, ⟨hgr.os, hgr.tape, hgr.output, hgr.size, fun k hk hk2 => hgr.block k hk (fun e => hk2 e.symm)⟩⟩
  unfold OwnP
  rw [List.length_append, show ptrs (gs ++ [x]) = ptrs gs ++ [.pointer (some ⟨x.1, 0, none⟩)] by simp [ptrs]]
  exact hown'
section
variable {w : World} {ops : Array Oper} {rest : List Oper} {o : Oper} {a : Act} {Q : Exit → Act → World → Prop}
theorem run_buildP (x : Nat) (w : World) : (Instr.buildSlice 76 1 #[(0, .pointer (some ⟨x, 0, none⟩))]).run Tryz.prog w = .ok (.slice (some ⟨w.heap.size, 0, none⟩) 1 1) (w.alloc (.cells #[.pointer (some ⟨x, 0, none⟩)] 96)) := by
  simp [Instr.buildSlice, run_underlying Tryz.underlying76, Tryz.sizeOf96, go_sem, Instr.fill, newRow]
theorem wpList_buildP (hg : o.guard = none) (y : Operand) (hop : o.op = Op.buildSlice 76 1 #[(0, y)]) (x : Nat) (hx : a.eval y = .pointer (some ⟨x, 0, none⟩))
    (hK : ∀ w', Hid (Rw.Blk w' w.heap.size 96 [.pointer (some ⟨x, 0, none⟩)]) → Below w.heap.size w w' → w.heap.size < w'.heap.size → wpList Tryz.prog ops Q rest (a.put o.dst (.slice (some ⟨w.heap.size, 0, none⟩) 1 1)) w') : wpList Tryz.prog ops Q (o :: rest) a w := by
  refine wpList_plain hg fun K hK' => ?_
  have hr := run_buildP x w
  unfold Oper.wp
  simp [execOp, hop, hx, hr, Result.andThen]
  exact hK' _ _ (hK _ (heap_alloc_new w _) ((Below.refl _ _).alloc (Nat.le_refl _) _) (by simp))
theorem OwnP.cells {w : World} {base : Nat} {v : Value} {gs : List (Nat × Pl.P)} (h : OwnP w base v gs) {k : Nat} (hk : v.ownBlock = some k) : base ≤ k ∧ ∃ cur, w.heap[k]? = some (.cells cur 96 (0, 0)) := by
  obtain ⟨_, ⟨hv, h0⟩ | ⟨g, cap, cur, hv, hg, hh, _⟩⟩ := h
  · rw [hv] at hk; cases hk
  · rw [hv] at hk
    simp only [Value.ownBlock, Option.some.injEq] at hk
    subst hk
    exact ⟨hg, cur, hh⟩
theorem wpList_appendP (hgd : o.guard = none) (s x : Operand)
    (ho : o.op = .call { callee := .builtin .append, args := #[s, x], argTypes := #[76, 76] })
    (base : Nat) (v : Value) (gs : List (Nat × Pl.P)) (y : Nat × Pl.P) (hown : OwnP w base v gs) (hs : a.eval s = v) (g : Nat) (hx : a.eval x = .slice (some ⟨g, 0, none⟩) 1 1) (hg : Rw.Blk w g 96 [.pointer (some ⟨y.1, 0, none⟩)])
    (hlen : gs.length < 100000) (hbase : base ≤ w.heap.size)
    (h : ∀ v' w', Hid (OwnP w' base v' (gs ++ [y])) → Hid (Below base w w') → Hid (∀ k, k < w.heap.size → (∀ cur, w.heap[k]? ≠ some (.cells cur 96 (0, 0))) → w'.heap[k]? = w.heap[k]?) → wpList Tryz.prog ops Q rest (a.put o.dst v') w') : wpList Tryz.prog ops Q (o :: rest) a w := by
  obtain ⟨v', w', hrun, h1, h2, h3⟩ := run_appendP hown y g hg hlen hbase o.type
  refine wpList_plain hgd fun K hK' => ?_
  unfold Oper.wp execOp
  simp only [ho, resolve, invoke, builtin, Sem.run_bind, Sem.run_pure, Result.andThen_ok, List.map_toArray, List.map_cons, List.map_nil, hs, hx, hrun]
  refine hK' _ _ (h v' w' h1 h2 fun k hk hne => h3.block k hk fun e => ?_)
  obtain ⟨_, cur, hc⟩ := hown.cells e
  exact hne cur hc
end
/-- The maps at gs. -/
def MapsAt (w : World) (gs : List (Nat × Pl.P)) : Prop := ∀ i (hi : i < gs.length), ∃ base, Pl.MapAt w base gs[i].1 gs[i].2 (Pl.pls gs[i].2)
theorem MapsAt.kept {w w' : World} {gs : List (Nat × Pl.P)} (h : MapsAt w gs) (hk : ∀ k, k < w.heap.size → (∀ cur, w.heap[k]? ≠ some (.cells cur 96 (0, 0))) → w'.heap[k]? = w.heap[k]?) : MapsAt w' gs := fun i hi => by
  obtain ⟨base, ⟨A, cap, m, h1, h2, h3, h4⟩, h5⟩ := h i hi
  refine ⟨base, ⟨A, cap, m, h1.kept (hk _ h1.lt (fun cur e => ?_)), ?_, h3.kept (hk m h3.lt (fun cur e => ?_)), h4⟩, h5⟩
  · rw [show w.heap[gs[i].1]? = _ from h1] at e
    injection e with e
    injection e with _ e2
    exact absurd e2 (by decide)
  · obtain ⟨e1, e2 | ⟨g2, cap2, cur, hv, hg, hh, e3⟩⟩ := h2
    · exact ⟨e1, .inl e2⟩
    · refine ⟨e1, .inr ⟨g2, cap2, cur, hv, hg, (hk g2 (Rw.lt_of_some hh) (fun cur e => ?_)).trans hh, e3⟩⟩
      rw [hh] at e
      injection e with e
      injection e with _ e2
      exact absurd e2 (by decide)
  · obtain ⟨es, ck, hb, _⟩ := h3
    rw [hb] at e
    cases e
theorem MapsAt.below {w w' : World} {gs : List (Nat × Pl.P)} (h : MapsAt w gs) (hb : Below w.heap.size w w') : MapsAt w' gs := h.kept fun k hk _ => hb.block k hk
end Hd
end Go.Proofs.YtfodabbmjggieaaGreat
