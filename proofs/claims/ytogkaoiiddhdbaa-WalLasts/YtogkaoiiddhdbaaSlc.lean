/- Slices of slices of bytes in memory; rows of the call's own that grow. -/
import Derived.Test.YtogkaoiiddhdbaaPure
import Derived.Test.YtogkaoiiddhdbaaWRput
import Derived.Laws.AppendOwnNone
import Derived.Maps.AppendAt
namespace Go.Proofs.Ytogkaoiiddhdbaa
open Go.RowKit

namespace Wl
/-- The walk stands still here. -/
theorem halt {P : Prop} (h : Hid P) : P := h.out
/-- The slice at A holds slices that hold the bytes of ps; all in blocks of which G holds. -/
def Prts (w : World) (G : Nat → Prop) (A : Option Addr) (ps : List (List UInt8)) : Prop :=
  0 < ps.length → ∃ b off, A = some ⟨b, off, none⟩ ∧ G b ∧ ∀ j (hj : j < ps.length), ∃ A' c, w.cell? ⟨b, off + j, none⟩ = some (.slice A' ps[j].length c) ∧ Dk.Bts w G A' ps[j] ∧ (A' = none → c = 0) ∧ ps[j].length ≤ c
section
variable {w w' : World} {G G' : Nat → Prop} {A : Option Addr} {ps : List (List UInt8)} {l : List UInt8}
theorem Bts.mono (h : Dk.Bts w G A l) (hG : ∀ k, G k → G' k) : Dk.Bts w G' A l := fun hl => by
  obtain ⟨b, off, e, hB, hc⟩ := h hl
  exact ⟨b, off, e, hG b hB, hc⟩
theorem Prts.mono (h : Prts w G A ps) (hG : ∀ k, G k → G' k) : Prts w G' A ps := fun hl => by
  obtain ⟨b, off, e, hB, hc⟩ := h hl
  refine ⟨b, off, e, hG b hB, fun j hj => ?_⟩
  obtain ⟨A', c, h1, h2, h3⟩ := hc j hj
  exact ⟨A', c, h1, Bts.mono h2 hG, h3⟩
theorem Prts.kept (h : Prts w G A ps) (hb : ∀ k, G k → w'.heap[k]? = w.heap[k]?) : Prts w' G A ps := fun hl => by
  obtain ⟨b, off, e, hB, hc⟩ := h hl
  refine ⟨b, off, e, hB, fun j hj => ?_⟩
  obtain ⟨A', c, h1, h2, h3⟩ := hc j hj
  exact ⟨A', c, (World.cell?_of_block (w := w) (a := ⟨b, off + j, none⟩) (hb b hB)).trans h1, h2.kept hb, h3⟩
theorem Prts.below (h : Prts w (· < w.heap.size) A ps) (hb : Below w.heap.size w w') : Prts w' (· < w.heap.size) A ps := h.kept fun k hk => hb.block k hk
theorem Prts.below' {B : Nat} (h : Prts w (· < B) A ps) (hb : Below B w w') : Prts w' (· < B) A ps := h.kept fun k hk => hb.block k hk
theorem Prts.lt (h : Prts w G A ps) : Prts w (fun k => G k ∧ k < w.heap.size) A ps := fun hl => by
  obtain ⟨b, off, e, hB, hc⟩ := h hl
  refine ⟨b, off, e, ⟨hB, ?_⟩, fun j hj => ?_⟩
  · obtain ⟨A', c, h1, _⟩ := hc 0 hl
    exact World.block_lt_of_cell? w _ h1
  · obtain ⟨A', c, h1, h2, h3⟩ := hc j hj
    exact ⟨A', c, h1, h2.lt, h3⟩
theorem Prts.drop {b off : Nat} (h : Prts w G (some ⟨b, off, none⟩) ps) (n : Nat) : Prts w G (some ⟨b, off + n, none⟩) (ps.drop n) := fun hl => by
  rw [List.length_drop] at hl
  obtain ⟨b', off', e, hB, hc⟩ := h (by omega)
  injection e with e
  injection e with e1 e2
  subst e1 e2
  refine ⟨b, off + n, rfl, hB, fun j hj => ?_⟩
  rw [List.length_drop] at hj
  have := hc (n + j) (by omega)
  rw [List.getElem_drop, show off + n + j = off + (n + j) by omega]
  exact this
theorem Prts.take (h : Prts w G A ps) (n : Nat) : Prts w G A (ps.take n) := fun hl => by
  have hl' : 0 < ps.length := by rw [List.length_take] at hl; omega
  obtain ⟨b, off, e, hB, hc⟩ := h hl'
  refine ⟨b, off, e, hB, fun j hj => ?_⟩
  rw [List.length_take] at hj
  rw [List.getElem_take]
  exact hc j (by omega)
theorem Prts.at_ (h : Prts w G A ps) (j : Nat) (hj : j < ps.length) : ∃ b off A' c, A = some ⟨b, off, none⟩ ∧ G b ∧ w.cell? ⟨b, off + j, none⟩ = some (.slice A' ps[j].length c) ∧ Dk.Bts w G A' ps[j] ∧ (A' = none → c = 0) ∧ ps[j].length ≤ c := by
  obtain ⟨b, off, e, hB, hc⟩ := h (by omega)
  obtain ⟨A', c, h1, h2, h3⟩ := hc j hj
  exact ⟨b, off, A', c, e, hB, h1, h2, h3⟩
theorem btsSub {b off : Nat} (h : Dk.Bts w G (some ⟨b, off, none⟩) l) (a n : Nat) : Dk.Bts w G (some ⟨b, off + a, none⟩) ((l.drop a).take n) := fun hl => by
  rw [List.length_take, List.length_drop] at hl
  obtain ⟨b', off', e, hB, hc⟩ := h (by omega)
  injection e with e
  injection e with e1 e2
  subst e1 e2
  refine ⟨b, off + a, rfl, hB, fun j hj => ?_⟩
  rw [List.length_take, List.length_drop] at hj
  rw [List.getElem_take, List.getElem_drop, show off + a + j = off + (a + j) by omega]
  exact hc (a + j) (by omega)
end

theorem s48_info : (Try.prog.info? 40).map (fun i => (i.zero, i.size, i.bytes)) = some (some (.slice none 0 0), 1, 24) := by kernel_rfl
theorem u48 : Try.prog.underlying 48 = some (.slice 40) := by kernel_rfl
abbrev X := Option Addr × Nat × List UInt8
def cellS (x : X) : Value := .slice x.1 x.2.2.length x.2.1
theorem one_cellS (xs : List X) : ∀ v ∈ xs.map cellS, v.oneCell' = true := by
  intro v hv
  obtain ⟨c, _, rfl⟩ := List.mem_map.1 hv
  rfl
/-- v is a row of the call's own, in a block from base on, of slices that hold the bytes of ps, in blocks from base on. -/
def Rws (w : World) (base : Nat) (v : Value) (ps : List (List UInt8)) : Prop :=
  ∃ xs : List X, ∃ G : Nat → Prop, w.ownsRow base 40 1 v xs.length (xs.map cellS) ∧ xs.map (·.2.2) = ps ∧ (∀ x ∈ xs, Dk.Bts w G x.1 x.2.2 ∧ (x.1 = none → x.2.1 = 0) ∧ x.2.2.length ≤ x.2.1) ∧
    (∀ k, G k → base ≤ k ∧ k < w.heap.size ∧ v.ownBlock ≠ some k)
section
variable {w w' : World} {base : Nat} {v : Value} {ps : List (List UInt8)}
theorem Rws.nil (w : World) (base : Nat) : Rws w base (.slice none 0 0) [] :=
  ⟨[], fun _ => False, World.ownsRow_nil w base 40 1, rfl, by simp, fun _ h => h.elim⟩
theorem ownsRow_form {e n m : Nat} {xs : List Value} (h : w.ownsRow base e m v n xs) : ∃ A cap, v = .slice A n cap := by
  rcases h.2 with ⟨rfl, hn⟩ | ⟨g, cap, cur, rfl, _⟩
  · exact ⟨none, 0, by rw [hn]⟩
  · exact ⟨_, cap, rfl⟩
theorem Rws.form (h : Rws w base v ps) : ∃ A cap, v = .slice A ps.length cap := by
  obtain ⟨xs, G, h1, rfl, _⟩ := h
  rw [List.length_map]
  exact ownsRow_form h1
theorem ownsRow_keep {e n m : Nat} {xs : List Value} (h : w.ownsRow base e m v n xs) (hk : ∀ g, v.ownBlock = some g → w'.heap[g]? = w.heap[g]?) : w'.ownsRow base e m v n xs := by
  obtain ⟨h1, h2⟩ := h
  refine ⟨h1, ?_⟩
  rcases h2 with h2 | ⟨g, cap, cur, hv, hg, hh, r⟩
  · exact .inl h2
  · exact .inr ⟨g, cap, cur, hv, hg, by rw [hk g (by rw [hv]; rfl)]; exact hh, r⟩
theorem Rws.kept (h : Rws w base v ps) (hs : w.heap.size ≤ w'.heap.size) (hk : ∀ g, base ≤ g → g < w.heap.size → w'.heap[g]? = w.heap[g]?) : Rws w' base v ps := by
  obtain ⟨xs, G, h1, h2, h3, h4⟩ := h
  refine ⟨xs, G, ownsRow_keep h1 (fun g hg => hk g (h1.lt g hg).1 (h1.lt g hg).2), h2, fun x hx => ?_, fun k hk' => ⟨(h4 k hk').1, Nat.lt_of_lt_of_le (h4 k hk').2.1 hs, (h4 k hk').2.2⟩⟩
  exact ⟨(h3 x hx).1.kept (fun k hk' => hk k (h4 k hk').1 (h4 k hk').2.1), (h3 x hx).2⟩
theorem Rws.below (h : Rws w base v ps) (hb : Below w.heap.size w w') : Rws w' base v ps := h.kept hb.size fun g _ hg => hb.block g hg
theorem Rws.less {base' : Nat} (h : Rws w base v ps) (hb : base' ≤ base) : Rws w base' v ps := by
  obtain ⟨xs, G, h1, h2, h3, h4⟩ := h
  refine ⟨xs, G, ⟨h1.1, ?_⟩, h2, h3, fun k hk => ⟨Nat.le_trans hb (h4 k hk).1, (h4 k hk).2⟩⟩
  rcases h1.2 with h | ⟨g, cap, cur, hv, hg, r⟩
  · exact .inl h
  · exact .inr ⟨g, cap, cur, hv, Nat.le_trans hb hg, r⟩
/-- It may be read. -/
theorem Rws.prts {A : Option Addr} {n cap : Nat} (h : Rws w base (.slice A n cap) ps) : Prts w (fun k => base ≤ k ∧ k < w.heap.size) A ps := fun hl => by
  obtain ⟨xs, G, h1, rfl, h3, h4⟩ := h
  have hlt := h1.lt
  rw [List.length_map] at hl
  rcases id h1.2 with ⟨_, hn⟩ | ⟨g, cap', cur, hv, hg, hh, _⟩
  · omega
  · injection hv with hA hn hc
    subst hA hn hc
    have hg2 := hlt g rfl
    refine ⟨g, 0, rfl, ⟨hg, hg2.2⟩, fun j hj => ?_⟩
    rw [List.length_map] at hj
    have hc := World.ownsRow.cellAt h1 j (by omega)
    rw [List.getElem?_map, List.getElem?_eq_getElem hj] at hc
    simp only [List.getElem_map]
    refine ⟨xs[j].1, xs[j].2.1, by rw [Nat.zero_add]; exact hc, ?_, (h3 _ (List.getElem_mem hj)).2⟩
    exact Bts.mono (h3 _ (List.getElem_mem hj)).1 (fun k hk => ⟨(h4 k hk).1, (h4 k hk).2.1⟩)
end

/-- append(rows, more...). -/
theorem wpList_appendS {w : World} {ops : Array Oper} {rest : List Oper} {o : Oper} {a : Act} {Q : Exit → Act → World → Prop} (hgd : o.guard = none) (s x : Operand)
    (ho : o.op = .call { callee := .builtin .append, args := #[s, x], argTypes := #[48, 48] })
    (base : Nat) (v : Value) (ps news L : List (List UInt8)) (hs : a.eval s = v) (hown : Rws w base v ps) (A : Option Addr) (c : Nat) (hx : a.eval x = .slice A news.length c) (hn : A = none → c = 0)
    (hr : Prts w (fun k => base ≤ k ∧ k < w.heap.size ∧ v.ownBlock ≠ some k) A news)
    (hL : ps ++ news = L) (nL : Nat) (hnL : nL = L.length) (hlen : L.length ≤ 1000000) (hbase : base ≤ w.heap.size)
    (h : ∀ A' cap' w', Hid (Rws w' base (.slice A' nL cap') L) → Below base w w' → wpList Try.prog ops Q rest (a.put o.dst (.slice A' nL cap')) w') : wpList Try.prog ops Q (o :: rest) a w := by
  subst hnL
  obtain ⟨i0, hi0, hz0, hz1, hz2⟩ := info_parts s48_info
  subst hL
  have hblk : ∀ k, v.ownBlock = some k → base ≤ k := fun k hk => by
    obtain ⟨xs, G, h1, _⟩ := hown
    exact (h1.lt k hk).1
  rcases A with _ | ad
  · have hne : news = [] := by
      rcases Nat.eq_zero_or_pos news.length with h0 | h0
      · exact List.eq_nil_of_length_eq_zero h0
      · obtain ⟨b, off, e, _⟩ := hr h0; cases e
    subst hne
    obtain rfl := hn rfl
    obtain ⟨A', cap', hv⟩ := hown.form
    obtain ⟨xs, G, h1, _⟩ := id hown
    refine wpList_append_own_none hgd s x 48 ho base 40 i0 1 u48 hi0 v xs.length (xs.map cellS) hs h1 hx ?_
    have := h A' cap' w (by rw [List.append_nil]; exact hv ▸ hown) (Below.refl _ _)
    rw [List.append_nil] at this
    rw [hv]
    exact this
  · obtain ⟨xs, G, h1, rfl, h3, h4⟩ := id hown
    -- the new cells
    have key : ∃ ys : List X, ys.map (·.2.2) = news ∧ (∀ j u, (ys.map cellS)[j]? = some u → w.cell? (ad.add j) = some u) ∧
        (∀ y ∈ ys, Dk.Bts w (fun k => base ≤ k ∧ k < w.heap.size ∧ v.ownBlock ≠ some k) y.1 y.2.2 ∧ (y.1 = none → y.2.1 = 0) ∧ y.2.2.length ≤ y.2.1) := by
      rcases Nat.eq_zero_or_pos news.length with h0 | h0
      · obtain rfl := List.eq_nil_of_length_eq_zero h0
        exact ⟨[], rfl, by simp, by simp⟩
      · obtain ⟨b, off, e, hB, hc⟩ := hr h0
        injection e with e
        subst e
        have : ∀ j : Nat, ∃ y : X, ∀ hj : j < news.length, y.2.2 = news[j] ∧ w.cell? ⟨b, off + j, none⟩ = some (cellS y) ∧ Dk.Bts w (fun k => base ≤ k ∧ k < w.heap.size ∧ v.ownBlock ≠ some k) y.1 y.2.2 ∧ (y.1 = none → y.2.1 = 0) ∧ y.2.2.length ≤ y.2.1 := fun j => by
          by_cases hj : j < news.length
          · obtain ⟨A', c', g1, g2, g3⟩ := hc j hj
            exact ⟨(A', c', news[j]), fun _ => ⟨rfl, g1, g2, g3⟩⟩
          · exact ⟨(none, 0, []), fun h => absurd h hj⟩
        refine ⟨(List.range news.length).map fun j => Classical.choose (this j), ?_, ?_, ?_⟩
        · apply List.ext_getElem
          · simp
          · intro j hj1 hj2
            simp only [List.getElem_map, List.getElem_range]
            exact (Classical.choose_spec (this j) hj2).1
        · intro j u hu
          rw [List.getElem?_map, List.getElem?_map] at hu
          by_cases hj : j < news.length
          · rw [List.getElem?_range hj] at hu
            simp only [Option.map_some, Option.some.injEq] at hu
            subst hu
            rw [Dk.add_plain]
            exact (Classical.choose_spec (this j) hj).2.1
          · rw [List.getElem?_eq_none (by simp; omega)] at hu
            cases hu
        · intro y hy
          obtain ⟨j, hj, rfl⟩ := List.mem_map.1 hy
          exact (Classical.choose_spec (this j) (List.mem_range.1 hj)).2.2
    obtain ⟨ys, rfl, hcells, hys⟩ := key
    have hlen' : xs.length + ys.length ≤ 1000000 := by simpa using hlen
    have hxx : a.eval x = .slice (some ad) ys.length c := by simpa using hx
    obtain ⟨v', w', hrun, hown', hg, _, hb'⟩ := run_append_own_at (P := Try.prog) w base 48 o.type 40 i0 (.slice none 0 0) 1 24 u48 hi0 hz0 hz1 hz2 rfl (by omega) v xs.length (xs.map cellS) h1 ad ys.length c (ys.map cellS) (by simp) hcells (one_cellS ys)
      (by unfold maxLen; omega) (by omega) hbase
    refine wpList_plain hgd fun K hK' => ?_
    unfold Oper.wp execOp
    simp only [ho, resolve, invoke, builtin, Sem.run_bind, Sem.run_pure, Result.andThen_ok, List.map_toArray, List.map_cons, List.map_nil, hs, hxx, hrun]
    refine hK' _ _ ?_
    have hfr : ∀ k, k < w.heap.size → v.ownBlock ≠ some k → w'.heap[k]? = w.heap[k]? := fun k hk hne => hg.block k hk (fun e => hne e.symm)
    have hne' : ∀ k, k < w.heap.size → v.ownBlock ≠ some k → v'.ownBlock ≠ some k := fun k hk hne e => by
      rcases hb' with hb' | hb'
      · exact hne (hb' ▸ e)
      · rw [hb'] at e; injection e with e; omega
    have hown2 : Rws w' base v' (xs.map (·.2.2) ++ ys.map (·.2.2)) := by
      refine ⟨xs ++ ys, fun k => base ≤ k ∧ k < w.heap.size ∧ v.ownBlock ≠ some k, by simpa using hown', by simp, fun x hx => ?_, fun k hk => ⟨hk.1, Nat.lt_of_lt_of_le hk.2.1 hg.size, hne' k hk.2.1 hk.2.2⟩⟩
      rcases List.mem_append.1 hx with hx | hx
      · exact ⟨(Bts.mono (h3 x hx).1 (fun k hk => h4 k hk)).kept (fun k hk => hfr k hk.2.1 hk.2.2), (h3 x hx).2⟩
      · exact ⟨(hys x hx).1.kept (fun k hk => hfr k hk.2.1 hk.2.2), (hys x hx).2⟩
    obtain ⟨A', cap', hv⟩ := hown2.form
    rw [hv] at hown2 ⊢
    exact h A' cap' w' hown2 ((Below.refl _ _).grown hg hbase hblk)
end Wl
end Go.Proofs.Ytogkaoiiddhdbaa
