/- Seats as keys of a map; the places of a plan in their order; a map of seats in memory. -/
import Derived.Test.YtonfkonjkgalhaaDoorPlMk
import Derived.Test.YtonfkonjkgalhaaDoorRw
import Derived.Maps.AppendAt
import Derived.OwnWalk
import Derived.WalkArith
namespace Go.Proofs.YtonfkonjkgalhaaDoor
open Go.RowKit Go.WideMaps
set_option linter.unusedVariables false

theorem laidOut : laidOutB Tryd.prog = true := by kernel_rfl
namespace Pl
theorem rowKey : (23 : TypeId) < Tryd.prog.types.size := of_decide_eq_true (by kernel_rfl)
theorem wideKey : (match Tryd.prog.underlying 23 with | some (.array _ _) | some (.struct _) => true | _ => false) = true := by kernel_rfl
set_option maxRecDepth 20000 in
theorem lawKey : KeyLaw Tryd.prog 23 := deep_law_laid laidOut (m := 3) (by omega) rowKey (by kernel_rfl) wideKey
theorem cellsKey : Tryd.prog.cellsOf 23 = 2 := by kernel_rfl
theorem fieldsKey : ∃ fs, Tryd.prog.underlying 23 = some (.struct fs) ∧ fs.all (fun f => f.name != "_") = true ∧ fs.toList.map (fun f => (f.type, f.offset)) = [(3, 0), (5, 1)] := by
  have h : (match Tryd.prog.underlying 23 with | some (.struct fs) => fs.all (fun f => f.name != "_") && decide (fs.toList.map (fun f => (f.type, f.offset)) = [(3, 0), (5, 1)]) | _ => false) = true := by kernel_rfl
  split at h
  · rename_i fs he
    simp only [Bool.and_eq_true, decide_eq_true_eq] at h
    exact ⟨fs, he, h.1, h.2⟩
  · cases h
theorem keyType : Tryd.prog.keyType 23 = true := by kernel_rfl
theorem cells1 : Tryd.prog.cellsOf 3 = 1 ∧ Tryd.prog.cellsOf 5 = 1 := ⟨by kernel_rfl, by kernel_rfl⟩
theorem uByte : Tryd.prog.underlying 5 = some (.int .u8) := by kernel_rfl
theorem uInt : Tryd.prog.underlying 3 = some (.int .i64) := by kernel_rfl
theorem succ_of {a : Nat} (k : Nat) (h : k < a) : ∃ n, a = n + 1 := ⟨a - 1, by omega⟩
theorem sizeTys : ∃ n, Tryd.prog.types.size = n + 1 := succ_of 23 rowKey
theorem sv_inj {a b : S} (h : sv a = sv b) : a = b := by
  obtain ⟨a1, a2⟩ := a
  obtain ⟨b1, b2⟩ := b
  simp [sv] at h
  rw [h.1, h.2]
/-- A seat as it may come in. -/
def WS (s : S) : Prop := -9223372036854775808 ≤ s.1 ∧ s.1 ≤ 9223372036854775807 ∧ 0 ≤ s.2 ∧ s.2 ≤ 255
theorem sv_key {s : S} (h : WS s) : Mp.KeyIs Tryd.prog 23 (sv s) := by
  obtain ⟨s1, s2⟩ := s
  obtain ⟨h0, h1, h2, h3⟩ := h
  simp only at h0 h1 h2 h3
  obtain ⟨fs, hu, hn, hf⟩ := fieldsKey
  obtain ⟨n, hz⟩ := sizeTys
  have hfs : ∃ a b, fs.toList = [a, b] ∧ a.type = 3 ∧ a.offset = 0 ∧ b.type = 5 ∧ b.offset = 1 := by
    rcases hl : fs.toList with _ | ⟨a, _ | ⟨b, _ | ⟨c, r⟩⟩⟩ <;> rw [hl] at hf <;> simp at hf
    exact ⟨a, b, rfl, hf.1.1, hf.1.2, hf.2.1, hf.2.2⟩
  obtain ⟨a, b, hl, ha, hao, hb, hbo⟩ := hfs
  have hI : Tryd.prog.keyLits (n + 1) 3 [.int .i64 s1] = some [.int .i64 s1] := by
    simp only [Program.keyLits, uInt]
    rw [if_pos ⟨trivial, Go.WalkArith.wf_i64 ⟨h0, h1⟩⟩]
  have hC : Tryd.prog.keyLits (n + 1) 5 [.int .u8 s2] = some [.int .u8 s2] := by
    simp only [Program.keyLits, uByte]
    rw [if_pos ⟨trivial, Go.WalkArith.wf_u8 ⟨h2, by omega⟩⟩]
  have hL : Tryd.prog.keyLits (Tryd.prog.types.size + 1) 23 [.int .i64 s1, .int .u8 s2] = some [.int .i64 s1, .int .u8 s2] := by
    have hM : (fs.toList.mapM fun q => Tryd.prog.keyLits (n + 1) q.type (([.int .i64 s1, .int .u8 s2] : List Value).drop q.offset |>.take (Tryd.prog.cellsOf q.type))) = some [[.int .i64 s1], [.int .u8 s2]] := by
      rw [hl]
      simp only [List.mapM_cons, List.mapM_nil, ha, hao, hb, hbo, cells1.1, cells1.2, List.drop_zero, List.drop_succ_cons, List.take_succ_cons, List.take_zero, hI, hC]
      rfl
    rw [hz]
    generalize n + 1 = m at hM ⊢
    simp only [Program.keyLits, hu, hM]
    rw [if_pos ⟨by rw [cellsKey]; rfl, hn⟩]
    rfl
  have hv : (sv (s1, s2)).formed Tryd.prog 23 = true := by
    simp [sv, Value.formed, hu, cellsKey]
  refine ⟨.string (keyBytes [.int .i64 s1, .int .u8 s2]), ?_⟩
  unfold keyOf
  rw [hu]
  simp only
  rw [keyType, hv]
  simp only [sv, Value.cells, Bool.and_self, if_true, hL]
  rfl
/-- The cells of seats. -/
def flat (l : List S) : List Value := l.flatMap fun s => [.int .i64 s.1, .int .u8 s.2]
theorem flat_append (a b : List S) : flat (a ++ b) = flat a ++ flat b := by simp [flat]
theorem flat_len (l : List S) : (flat l).length = l.length * 2 := by
  induction l with
  | nil => rfl
  | cons s l ih => simp [flat] at ih ⊢; omega
theorem flat_get : ∀ (l : List S) (j : Nat) (hj : j < l.length), (flat l)[j * 2]? = some (.int .i64 (gR l j)) ∧ (flat l)[j * 2 + 1]? = some (.int .u8 (gC l j))
  | s :: l, 0, _ => ⟨rfl, rfl⟩
  | s :: l, j + 1, hj => by
    have h := flat_get l j (by simpa using hj)
    have e1 : gR (s :: l) (j + 1) = gR l j := rfl
    have e2 : gC (s :: l) (j + 1) = gC l j := rfl
    rw [e1, e2, show (j + 1) * 2 = j * 2 + 2 by omega, ← h.1, ← h.2]
    exact ⟨rfl, rfl⟩
/-- A slice of seats of the call's own. -/
def OwnS (w : World) (base : Nat) (v : Value) (l : List S) : Prop := w.ownsRow base 23 2 v l.length (flat l)
theorem OwnS.sts {w : World} {base : Nat} {v : Value} {l : List S} (h : OwnS w base v l) : ∃ A cap, v = .slice A l.length cap ∧ l.length ≤ cap ∧ Sts w w.heap.size A l := by
  obtain ⟨_, ⟨hv, h0⟩ | ⟨g, cap, cur, hv, hg, hh, hcap, _, hsz, htk⟩⟩ := h
  · exact ⟨none, 0, by rw [h0]; exact hv, by omega, fun h => absurd h (by omega)⟩
  · refine ⟨some ⟨g, 0, none⟩, cap, hv, hcap, fun hl => ⟨g, 0, rfl, Rw.lt_of_some hh, fun j hj => ?_⟩⟩
    obtain ⟨h1, h2⟩ := flat_get l j hj
    rw [← htk, List.getElem?_take_of_lt (by omega)] at h1 h2
    rw [cell_of_row _ _ _ _ _ _ hh, cell_of_row _ _ _ _ _ _ hh, show 0 + j * 2 = j * 2 by omega]
    exact ⟨by simpa using h1, by simpa using h2⟩
theorem OwnS.kept {w w' : World} {base : Nat} {v : Value} {l : List S} (h : OwnS w base v l) (hb : ∀ (g : Nat) (cur : Array Value), w.heap[g]? = some (.cells cur 23 (0, 0)) → w'.heap[g]? = w.heap[g]?) : OwnS w' base v l := by
  obtain ⟨h1, h2 | ⟨g, cap, cur, hv, hg, hh, h3⟩⟩ := h
  · exact ⟨h1, .inl h2⟩
  · exact ⟨h1, .inr ⟨g, cap, cur, hv, hg, (hb g cur hh).trans hh, h3⟩⟩
theorem OwnS.below {w w' : World} {base : Nat} {v : Value} {l : List S} (h : OwnS w base v l) (hb : Below w.heap.size w w') : OwnS w' base v l := h.kept fun g cur hg => hb.block g (Rw.lt_of_some hg)
theorem OwnS.low {w : World} {base base' : Nat} {v : Value} {l : List S} (h : OwnS w base v l) (hb : base' ≤ base) : OwnS w base' v l := by
  obtain ⟨h1, h2 | ⟨g, cap, cur, hv, hg, h3⟩⟩ := h
  · exact ⟨h1, .inl h2⟩
  · exact ⟨h1, .inr ⟨g, cap, cur, hv, by omega, h3⟩⟩
theorem OwnS.nil (w : World) (base : Nat) : OwnS w base (.slice none 0 0) [] := ⟨rfl, .inl ⟨rfl, rfl⟩⟩
theorem infoS : (Tryd.prog.info? 23).map (fun i => (i.zero, i.size, i.bytes)) = some (some (.agg #[.int .i64 0, .int .u8 0]), 2, 16) := by kernel_rfl
theorem infoS' : ∃ i, Tryd.prog.info? 23 = some i ∧ i.zero = some (.agg #[.int .i64 0, .int .u8 0]) ∧ i.size = 2 ∧ i.bytes = 16 := by
  obtain ⟨i, hi, h⟩ := Option.map_eq_some_iff.1 infoS
  simp only [Prod.mk.injEq] at h
  exact ⟨i, hi, h.1, h.2.1, h.2.2⟩
/-- append of one seat to own seats. -/
theorem run_appendS {w : World} (ty : TypeId) (base : Nat) (v : Value) (l : List S) (s : S) (hown : OwnS w base v l) (g : Nat) (hg : Sc s g 0 w) (hlen : l.length < 100000) (hbase : base ≤ w.heap.size) :
    ∃ A cap w', (Builtin.append_ #[30, 30] ty #[v, .slice (some ⟨g, 0, none⟩) 1 1]).run Tryd.prog w = .ok (.slice A (l.length + 1) cap) w' ∧ OwnS w' base (.slice A (l.length + 1) cap) (l ++ [s]) ∧ Below base w w' ∧ (∀ k, k < w.heap.size → v.ownBlock ≠ some k → w'.heap[k]? = w.heap[k]?) := by
  obtain ⟨i0, hi0, hz0, hz1, hz2⟩ := infoS'
  obtain ⟨v', w', hrun, hown', hgr, hnil, _⟩ := run_append_own_at (P := Tryd.prog) w base 30 ty 23 i0 (.agg #[.int .i64 0, .int .u8 0]) 2 16 Tryd.underlying30 hi0 hz0 hz1 hz2 rfl (by omega) v l.length (flat l) hown ⟨g, 0, none⟩ 1 1 [.int .i64 s.1, .int .u8 s.2] rfl (fun j u hu => by
    rcases j with _ | _ | j
    · simp at hu; subst hu; exact hg.1
    · simp at hu; subst hu; exact hg.2
    · simp at hu) (by simp; exact ⟨rfl, rfl⟩) (by unfold maxLen; omega) (by omega) hbase
  have hO : OwnS w' base v' (l ++ [s]) := by
    unfold OwnS
    rw [List.length_append, flat_append]
    exact hown'
  have hty : ∀ k, v.ownBlock = some k → base ≤ k ∧ ∃ cur, w.heap[k]? = some (.cells cur 23 (0, 0)) := fun k hk => by
    obtain ⟨_, ⟨hv, h0⟩ | ⟨g, cap, cur, hv, hg, hh, _⟩⟩ := hown
    · rw [hv] at hk; cases hk
    · rw [hv] at hk
      simp only [Value.ownBlock, Option.some.injEq] at hk
      subst hk
      exact ⟨hg, cur, hh⟩
  obtain ⟨A, cap, hv, _⟩ := hO.sts
  rw [List.length_append] at hv
  simp only [List.length_cons, List.length_nil, Nat.zero_add] at hv
  subst hv
  refine ⟨A, cap, w', hrun, hO, ⟨hgr.os, hgr.tape, hgr.output, hgr.size, fun k hk => hgr.block k (by omega) (fun e => by have := (hty k e.symm).1; omega)⟩, fun k hk hne => hgr.block k hk (fun e => hne e.symm)⟩
theorem OwnS.blk {w : World} {base : Nat} {v : Value} {l : List S} (h : OwnS w base v l) : ∀ k, v.ownBlock = some k → base ≤ k ∧ k < w.heap.size ∧ ∃ cur, w.heap[k]? = some (.cells cur 23 (0, 0)) := fun k hk => by
  obtain ⟨_, ⟨hv, h0⟩ | ⟨g, cap, cur, hv, hg, hh, _⟩⟩ := h
  · rw [hv] at hk; cases hk
  · rw [hv] at hk
    simp only [Value.ownBlock, Option.some.injEq] at hk
    subst hk
    exact ⟨hg, Rw.lt_of_some hh, cur, hh⟩
end Pl
end Go.Proofs.YtonfkonjkgalhaaDoor
