/- append of numbers and of seats that came in to a row of the call's own. -/
import Derived.Test.YtonfkonjkgalhaaDoorPlSeats
import Derived.Laws.AppendOwnNone
import Derived.Laws.OwnMore
import Derived.Deep.AppendLies
import Derived.WideShapes
namespace Go.Proofs.YtonfkonjkgalhaaDoor
open Go.WideShapes Go.RowKit Go.WideMaps
set_option linter.unusedVariables false

namespace Rw
/-- append(own, xs...), xs whatever came in, nil too. -/
theorem wpList_appAny {w : World} {ops : Array Oper} {rest : List Oper} {o : Oper} {a : Act} {Q : Exit → Act → World → Prop} (hgd : o.guard = none) (s x : Operand) (t e : TypeId)
    (ho : o.op = .call { callee := .builtin .append, args := #[s, x], argTypes := #[t, t] }) (i : TypeInfo) (z : Value) (size bytes : Nat) (ht : Tryd.prog.underlying t = some (.slice e)) (hi : Tryd.prog.info? e = some i) (hz : i.zero = some z)
    (hsize : i.size = size) (hby : i.bytes = bytes) (hzs : z.cells.size = size) (hsz : 0 < size)
    (base : Nat) (v : Value) (n m c : Nat) (xs news : List Value) (hs : a.eval s = v) (hown : w.ownsRow base e size v n xs) (A : Option Addr) (hx : a.eval x = .slice A m c) (hn : A = none → c = 0 ∧ m = 0)
    (hl : news.length = m * size) (hc : ∀ ad, A = some ad → ∀ j u, news[j]? = some u → w.cell? (ad.add j) = some u) (h1 : ∀ u ∈ news, u.oneCell' = true) (h63 : n + m ≤ maxLen) (hbytes : (n + m) * bytes ≤ 140737488355328) (hbase : base ≤ w.heap.size)
    (h : ∀ v' w', Hid (w'.ownsRow base e size v' (n + m) (xs ++ news)) → Hid (w.grownBy w' v.ownBlock) → Hid (v'.ownBlock = v.ownBlock ∨ v'.ownBlock = some w.heap.size) → wpList Tryd.prog ops Q rest (a.put o.dst v') w') : wpList Tryd.prog ops Q (o :: rest) a w := by
  rcases A with _ | ad
  · obtain ⟨rfl, rfl⟩ := hn rfl
    have hne : news = [] := by simpa using hl
    subst hne
    refine wpList_append_own_none hgd s x t ho base e i size ht hi v n xs hs hown hx ?_
    exact h v w (show w.ownsRow base e size v (n + 0) (xs ++ []) by rw [Nat.add_zero, List.append_nil]; exact hown) (World.grownBy.refl w _) (.inl rfl)
  · obtain ⟨v', w', hrun, hown', hg, _, hb⟩ := run_append_own_at (P := Tryd.prog) w base t o.type e i z size bytes ht hi hz hsize hby hzs hsz v n xs hown ad m c news hl (hc ad rfl) h1 h63 hbytes hbase
    refine wpList_plain hgd fun K hK => ?_
    unfold Oper.wp
    simp [execOp, ho, resolve, invoke, builtin, hs, hx, hrun, Result.andThen]
    exact hK _ _ (h v' w' hown' hg hb)
end Rw
namespace Pl
theorem infoI : (Tryd.prog.info? 3).map (fun i => (i.zero, i.size, i.bytes)) = some (some (.int .i64 0), 1, 8) := by kernel_rfl
theorem infoI' : ∃ i, Tryd.prog.info? 3 = some i ∧ i.zero = some (.int .i64 0) ∧ i.size = 1 ∧ i.bytes = 8 := by
  obtain ⟨i, hi, h⟩ := Option.map_eq_some_iff.1 infoI
  simp only [Prod.mk.injEq] at h
  exact ⟨i, hi, h.1, h.2.1, h.2.2⟩
def cellsI (l : List Int) : List Value := l.map fun n => .int .i64 n
def OwnI (w : World) (base : Nat) (v : Value) (l : List Int) : Prop := w.ownsRow base 3 1 v l.length (cellsI l)
theorem cellsI_len (l : List Int) : (cellsI l).length = l.length := by simp [cellsI]
theorem cellsI_get (l : List Int) (j : Nat) (h : j < l.length) : (cellsI l)[j]? = some (.int .i64 (gI l j)) := by
  simp [cellsI, gI, List.getElem?_eq_getElem h, List.getD_eq_getElem?_getD]
theorem OwnI.ints {w : World} {base : Nat} {v : Value} {l : List Int} (h : OwnI w base v l) : ∃ A cap, v = .slice A l.length cap ∧ l.length ≤ cap ∧ Ints w w.heap.size A l := by
  obtain ⟨_, ⟨hv, h0⟩ | ⟨g, cap, cur, hv, hg, hh, hcap, _, hsz, htk⟩⟩ := h
  · exact ⟨none, 0, by rw [h0]; exact hv, by omega, fun h => absurd h (by omega)⟩
  · refine ⟨some ⟨g, 0, none⟩, cap, hv, hcap, fun hl => ⟨g, 0, rfl, Rw.lt_of_some hh, fun j hj => ?_⟩⟩
    have h1 := cellsI_get l j hj
    rw [← htk, List.getElem?_take_of_lt (by omega)] at h1
    rw [cell_of_row _ _ _ _ _ _ hh, Nat.zero_add]
    simpa using h1
theorem OwnI.below {w w' : World} {base : Nat} {v : Value} {l : List Int} (h : OwnI w base v l) (hb : ∀ k, base ≤ k → k < w.heap.size → w'.heap[k]? = w.heap[k]?) : OwnI w' base v l := by
  obtain ⟨h1, h2 | ⟨g, cap, cur, hv, hg, hh, h3⟩⟩ := h
  · exact ⟨h1, .inl h2⟩
  · exact ⟨h1, .inr ⟨g, cap, cur, hv, hg, (hb g hg (Rw.lt_of_some hh)).trans hh, h3⟩⟩
theorem OwnS.keptB {w w' : World} {base : Nat} {v : Value} {l : List S} (h : OwnS w base v l) (hb : ∀ k, base ≤ k → k < w.heap.size → w'.heap[k]? = w.heap[k]?) : OwnS w' base v l := by
  obtain ⟨h1, h2 | ⟨g, cap, cur, hv, hg, hh, h3⟩⟩ := h
  · exact ⟨h1, .inl h2⟩
  · exact ⟨h1, .inr ⟨g, cap, cur, hv, hg, (hb g hg (Rw.lt_of_some hh)).trans hh, h3⟩⟩
theorem ints_cells {w : World} {B : Nat} {A : Option Addr} {l : List Int} (h : Ints w B A l) : ∀ ad, A = some ad → ∀ j u, (cellsI l)[j]? = some u → w.cell? (ad.add j) = some u := fun ad e j u hu => by
  have hj : j < l.length := by have := (List.getElem?_eq_some_iff.1 hu).1; rwa [cellsI_len] at this
  obtain ⟨b, off, e2, _, hc⟩ := h (by omega)
  rw [e] at e2
  injection e2 with e2
  subst e2
  rw [cellsI_get l j hj] at hu
  injection hu with hu
  subst hu
  rw [add_plain]
  exact hc j hj
theorem sts_cells {w : World} {B : Nat} {A : Option Addr} {l : List S} (h : Sts w B A l) : ∀ ad, A = some ad → ∀ j u, (flat l)[j]? = some u → w.cell? (ad.add j) = some u := fun ad e j u hu => by
  have hj : j < l.length * 2 := by have := (List.getElem?_eq_some_iff.1 hu).1; rwa [flat_len] at this
  obtain ⟨b, off, e2, _, hc⟩ := h (by omega)
  rw [e] at e2
  injection e2 with e2
  subst e2
  obtain ⟨f0, f1⟩ := flat_get l (j / 2) (by omega)
  obtain ⟨c0, c1⟩ := hc (j / 2) (by omega)
  rw [add_plain]
  by_cases hp : j % 2 = 0
  · rw [show j / 2 * 2 = j by omega] at f0 c0
    rw [f0] at hu
    injection hu with hu
    subst hu
    exact c0
  · rw [show j / 2 * 2 + 1 = j by omega] at f1
    rw [Nat.add_assoc, show j / 2 * 2 + 1 = j by omega] at c1
    rw [f1] at hu
    injection hu with hu
    subst hu
    exact c1
theorem cellsI_one (l : List Int) : ∀ v ∈ cellsI l, v.oneCell' = true := by
  intro v hv
  obtain ⟨c, _, rfl⟩ := List.mem_map.1 hv
  rfl
theorem flat_one (l : List S) : ∀ v ∈ flat l, v.oneCell' = true := by
  intro v hv
  obtain ⟨c, _, h⟩ := List.mem_flatMap.1 hv
  simp at h
  rcases h with rfl | rfl <;> rfl
theorem OwnI.empty (w : World) (base : Nat) (h : base ≤ w.heap.size) : (w.alloc (.cells #[] 3)).ownsRow base 3 1 (.slice (some ⟨w.heap.size, 0, none⟩) 0 0) 0 [] := World.ownsRow_lit w #[] 0 h (Nat.zero_le _) rfl
theorem OwnS.empty (w : World) (base : Nat) (h : base ≤ w.heap.size) : (w.alloc (.cells #[] 23)).ownsRow base 23 2 (.slice (some ⟨w.heap.size, 0, none⟩) 0 0) 0 [] := World.ownsRow_lit w #[] 0 h (Nat.zero_le _) rfl
end Pl
section
variable {w : World} {ops : Array Oper} {rest : List Oper} {o : Oper} {a : Act} {Q : Exit → Act → World → Prop}
/-- append([]int{}, xs...). -/
theorem Rw.wpList_appI (hgd : o.guard = none) (s x : Operand) (ho : o.op = .call { callee := .builtin .append, args := #[s, x], argTypes := #[29, 29] })
    (base g B m c : Nat) (l : List Int) (hs : a.eval s = .slice (some ⟨g, 0, none⟩) 0 0) (hown : w.ownsRow base 3 1 (.slice (some ⟨g, 0, none⟩) 0 0) 0 []) (A : Option Addr) (hx : a.eval x = .slice A m c) (hm : m = l.length) (hn : A = none → c = 0) (hr : Pl.Ints w B A l) (hlen : l.length ≤ 10000) (hbase : base ≤ w.heap.size)
    (h : ∀ A' c' w', Hid (Pl.OwnI w' base (.slice A' m c') l) → Hid (m ≤ c') → Hid (∀ k, k < w.heap.size → k ≠ g → w'.heap[k]? = w.heap[k]?) → Hid (Below base w w') → wpList Tryd.prog ops Q rest (a.put o.dst (.slice A' m c')) w') : wpList Tryd.prog ops Q (o :: rest) a w := by
  subst hm
  obtain ⟨i0, hi0, hz0, hz1, hz2⟩ := Pl.infoI'
  refine Rw.wpList_appAny hgd s x 29 3 ho i0 (.int .i64 0) 1 8 Tryd.underlying29 hi0 hz0 hz1 hz2 rfl (by omega) base _ 0 l.length c [] (Pl.cellsI l) hs hown A hx (fun e => ⟨hn e, ?_⟩) (by rw [Pl.cellsI_len]; omega) (Pl.ints_cells hr) (Pl.cellsI_one l) (by unfold maxLen; omega) (by omega) hbase ?_
  · rcases Nat.eq_zero_or_pos l.length with h0 | h0
    · exact h0
    · obtain ⟨b, off, e2, _⟩ := hr h0; rw [e] at e2; cases e2
  · intro v' w' h1 h2 h3
    have h1' : Pl.OwnI w' base v' l := by have := h1.out; rwa [Nat.zero_add, List.nil_append] at this
    obtain ⟨A', c', hv, hc, _⟩ := h1'.ints
    rw [hv] at h1' ⊢
    have hgb := hown.lt g rfl
    exact h A' c' w' h1' hc (fun k hk hne => h2.out.block k hk (fun e => hne (by injection e))) ⟨h2.out.os, h2.out.tape, h2.out.output, h2.out.size, fun k hk => h2.out.block k (by omega) (fun e => by injection e with e; subst e; omega)⟩
/-- append([]Seat{}, xs...). -/
theorem Rw.wpList_appL (hgd : o.guard = none) (s x : Operand) (ho : o.op = .call { callee := .builtin .append, args := #[s, x], argTypes := #[30, 30] })
    (base g B m c : Nat) (l : List Pl.S) (hs : a.eval s = .slice (some ⟨g, 0, none⟩) 0 0) (hown : w.ownsRow base 23 2 (.slice (some ⟨g, 0, none⟩) 0 0) 0 []) (A : Option Addr) (hx : a.eval x = .slice A m c) (hm : m = l.length) (hn : A = none → c = 0) (hr : Pl.Sts w B A l) (hlen : l.length ≤ 10000) (hbase : base ≤ w.heap.size)
    (h : ∀ A' c' w', Hid (Pl.OwnS w' base (.slice A' m c') l) → Hid (m ≤ c') → Hid (∀ k, k < w.heap.size → k ≠ g → w'.heap[k]? = w.heap[k]?) → Hid (Below base w w') → wpList Tryd.prog ops Q rest (a.put o.dst (.slice A' m c')) w') : wpList Tryd.prog ops Q (o :: rest) a w := by
  subst hm
  obtain ⟨i0, hi0, hz0, hz1, hz2⟩ := Pl.infoS'
  refine Rw.wpList_appAny hgd s x 30 23 ho i0 (.agg #[.int .i64 0, .int .u8 0]) 2 16 Tryd.underlying30 hi0 hz0 hz1 hz2 rfl (by omega) base _ 0 l.length c [] (Pl.flat l) hs hown A hx (fun e => ⟨hn e, ?_⟩) (by rw [Pl.flat_len]) (Pl.sts_cells hr) (Pl.flat_one l) (by unfold maxLen; omega) (by omega) hbase ?_
  · rcases Nat.eq_zero_or_pos l.length with h0 | h0
    · exact h0
    · obtain ⟨b, off, e2, _⟩ := hr h0; rw [e] at e2; cases e2
  · intro v' w' h1 h2 h3
    have h1' : Pl.OwnS w' base v' l := by have := h1.out; rwa [Nat.zero_add, List.nil_append] at this
    obtain ⟨A', c', hv, hc, _⟩ := h1'.sts
    rw [hv] at h1' ⊢
    have hgb := hown.lt g rfl
    exact h A' c' w' h1' hc (fun k hk hne => h2.out.block k hk (fun e => hne (by injection e))) ⟨h2.out.os, h2.out.tape, h2.out.output, h2.out.size, fun k hk => h2.out.block k (by omega) (fun e => by injection e with e; subst e; omega)⟩
end
end Go.Proofs.YtonfkonjkgalhaaDoor
