/- Contract of the document's Upper: bytes appended one by one to a row of the call's own. -/
import Derived.Test.YtonfkonjkgalhaaDoorCdUp
import Derived.Laws.AppendOwnNone
namespace Go.Proofs.YtonfkonjkgalhaaDoor
open Go.RowKit
set_option linter.unusedVariables false

namespace Cd
def cell8 (c : UInt8) : Value := .int .u8 (c.toNat : Int)
def cells8 (l : List UInt8) : List Value := l.map cell8
theorem length_cells8 (l : List UInt8) : (cells8 l).length = l.length := by simp [cells8]
theorem get_cells8 (l : List UInt8) (j : Nat) (hj : j < l.length) : (cells8 l)[j]? = some (.int .u8 (l[j].toNat : Int)) := by
  simp [cells8, cell8, hj]
theorem one_cells8 (l : List UInt8) : ∀ v ∈ cells8 l, v.oneCell' = true := by
  intro v hv
  obtain ⟨c, _, rfl⟩ := List.mem_map.1 hv
  rfl
theorem u8_info : (Tryd.prog.info? 5).map (fun i => (i.zero, i.size, i.bytes)) = some (some (.int .u8 0), 1, 1) := by kernel_rfl
/-- The slice at A holds the bytes l, below block B. -/
def Bts (w : World) (B : Nat) (A : Option Addr) (l : List UInt8) : Prop :=
  0 < l.length → ∃ b off, A = some ⟨b, off, none⟩ ∧ b < B ∧ ∀ j (hj : j < l.length), w.cell? ⟨b, off + j, none⟩ = some (.int .u8 (l[j].toNat : Int))
/-- string(b), b a slice of the bytes l. -/
theorem conv {w : World} {B : Nat} {A : Option Addr} {l : List UInt8} (h : Bts w B A l) (c : Nat) : (convert 66 9 (.slice A l.length c)).run Tryd.prog w = .ok (.string ⟨l.toArray⟩) w := by
  rcases A with _ | a
  · have hl : l = [] := by
      rcases Nat.eq_zero_or_pos l.length with h0 | h0
      · exact List.eq_nil_of_length_eq_zero h0
      · obtain ⟨b, off, e, _⟩ := h h0; cases e
    subst hl
    exact run_convert_bytes_nil w 66 5 Tryd.underlying66 Tryd.underlying5 _ _ 9 Tryd.underlying9
  · refine run_convert_bytes_back w 66 9 5 a c l Tryd.underlying66 Tryd.underlying5 Tryd.underlying9 fun j hj => ?_
    obtain ⟨b, off, e, _, hc⟩ := h (by omega)
    injection e with e
    subst e
    rw [add_plain]
    exact hc j hj
theorem bts_one (w : World) (x : Int) (c : UInt8) (h : x = (c.toNat : Int)) : Bts (w.alloc (.cells #[.int .u8 x] 5)) (w.heap.size + 1) (some ⟨w.heap.size, 0, none⟩) [c] := fun _ =>
  ⟨_, 0, rfl, Nat.lt_succ_self _, fun j hj => by
    obtain rfl : j = 0 := by simpa using hj
    subst h
    exact cell_of_row _ _ 0 _ _ _ (heap_alloc_new w _)⟩

/-- The slice v owns the bytes l, in a block from base on (or is nil and l is empty). -/
def OwnV (w : World) (base : Nat) (v : Value) (l : List UInt8) : Prop := w.ownsRow base 5 1 v l.length (cells8 l)

section
variable {w w' : World} {base B cap : Nat} {v : Value} {A : Option Addr} {l : List UInt8}
theorem OwnV.none_ (w : World) (base : Nat) : OwnV w base (.slice none 0 0) [] := World.ownsRow_nil w base 5 1
theorem OwnV.empty (w : World) (base : Nat) (h : base ≤ w.heap.size) : OwnV (w.alloc (.cells #[] 5)) base (.slice (some ⟨w.heap.size, 0, none⟩) 0 0) [] :=
  World.ownsRow_lit w #[] 0 h (Nat.zero_le _) rfl
theorem OwnV.form (h : OwnV w base v l) : ∃ A cap, v = .slice A l.length cap := by
  rcases h.2 with ⟨rfl, hn⟩ | ⟨g, cap, cur, rfl, _⟩
  · exact ⟨none, 0, by rw [hn]⟩
  · exact ⟨_, cap, rfl⟩
theorem OwnV.at_ (h : OwnV w base (.slice A l.length cap) l) (hl : 0 < l.length) : ∃ g, A = some ⟨g, 0, none⟩ ∧ base ≤ g ∧ g < w.heap.size := by
  rcases h.2 with ⟨_, hn⟩ | ⟨g, cap', cur, hv, hb, hh, _⟩
  · omega
  · injection hv with hA
    refine ⟨g, hA, hb, ?_⟩
    rcases Nat.lt_or_ge g w.heap.size with hlt | hge
    · exact hlt
    · rw [Array.getElem?_eq_none hge] at hh; cases hh
theorem OwnV.cell {g : Nat} (h : OwnV w base (.slice (some ⟨g, 0, none⟩) l.length cap) l) (j : Nat) (hj : j < l.length) : w.cell? ⟨g, j, none⟩ = some (.int .u8 (l[j].toNat : Int)) := by
  rw [World.ownsRow.cellAt h j (by omega), get_cells8 l j hj]
theorem OwnV.free {g : Nat} (h : OwnV w base (.slice (some ⟨g, 0, none⟩) l.length cap) l) (j : Nat) : w.frozen? ⟨g, j, none⟩ = false := World.ownsRow.frozenAt h j
theorem OwnV.bts (h : OwnV w base (.slice A l.length cap) l) : Bts w w.heap.size A l := fun hl => by
  obtain ⟨g, rfl, _, hg⟩ := h.at_ hl
  exact ⟨g, 0, rfl, hg, fun j hj => by rw [Nat.zero_add]; exact h.cell j hj⟩
theorem OwnV.set {g : Nat} (h : OwnV w base (.slice (some ⟨g, 0, none⟩) l.length cap) l) (j : Nat) (c : UInt8) :
    OwnV (w.setCell ⟨g, j, none⟩ (.int .u8 (c.toNat : Int))) base (.slice (some ⟨g, 0, none⟩) l.length cap) (l.set j c) := by
  have := (World.ownsRow.stored h j (.int .u8 (c.toNat : Int))).1
  unfold OwnV
  rw [List.length_set]
  simpa [cells8, List.map_set, cell8] using this
theorem OwnV.keep (h : OwnV w base v l) (hk : ∀ g, base ≤ g → g < w.heap.size → w'.heap[g]? = w.heap[g]?) : OwnV w' base v l := by
  obtain ⟨h1, h2⟩ := h
  refine ⟨h1, ?_⟩
  rcases h2 with h2 | ⟨g, cap, cur, hv, hb, hh, r⟩
  · exact .inl h2
  · refine .inr ⟨g, cap, cur, hv, hb, ?_, r⟩
    rw [hk g hb ?_]
    · exact hh
    · rcases Nat.lt_or_ge g w.heap.size with hlt | hge
      · exact hlt
      · rw [Array.getElem?_eq_none hge] at hh; cases hh
theorem OwnV.below (h : OwnV w base v l) (hb : Below w.heap.size w w') : OwnV w' base v l := h.keep fun g _ hg => hb.block g hg
theorem OwnV.blk (h : OwnV w base v l) : ∀ k, v.ownBlock = some k → base ≤ k := fun k hk => (h.lt k hk).1
end

set_option maxRecDepth 8000 in
/-- append(out, xs...), out a row of the call's own, xs any bytes. -/
theorem wpList_append8 {w : World} {ops : Array Oper} {rest : List Oper} {o : Oper} {a : Act} {Q : Exit → Act → World → Prop} (hgd : o.guard = none) (s x : Operand)
    (ho : o.op = .call { callee := .builtin .append, args := #[s, x], argTypes := #[66, 66] })
    (base B : Nat) (v : Value) (l news L : List UInt8) (hs : a.eval s = v) (hown : OwnV w base v l) (A : Option Addr) (c : Nat) (hx : a.eval x = .slice A news.length c) (hn : A = none → c = 0) (hr : Bts w B A news)
    (hL : l ++ news = L) (hlen : L.length ≤ 140737488355328) (hbase : base ≤ w.heap.size)
    (h : ∀ A' cap' w', Hid (OwnV w' base (.slice A' L.length cap') L) → Below base w w' → wpList Tryd.prog ops Q rest (a.put o.dst (.slice A' L.length cap')) w') : wpList Tryd.prog ops Q (o :: rest) a w := by
  obtain ⟨i0, hi0, hz0, hz1, hz2⟩ := info_parts u8_info
  subst hL
  rcases A with _ | ad
  · have hne : news = [] := by
      rcases Nat.eq_zero_or_pos news.length with h0 | h0
      · exact List.eq_nil_of_length_eq_zero h0
      · obtain ⟨b, off, e, _⟩ := hr h0; cases e
    subst hne
    obtain rfl := hn rfl
    refine wpList_append_own_none hgd s x 66 ho base 5 i0 1 Tryd.underlying66 hi0 v l.length (cells8 l) hs hown hx ?_
    obtain ⟨A', cap', hv⟩ := hown.form
    have := h A' cap' w (by rw [List.append_nil]; exact hv ▸ hown) (Below.refl _ _)
    rw [List.append_nil] at this
    rw [hv]
    exact this
  · have hcells : ∀ j u, (cells8 news)[j]? = some u → w.cell? (ad.add j) = some u := by
      intro j u hu
      have hj : j < news.length := by
        have := (List.getElem?_eq_some_iff.1 hu).1
        rwa [length_cells8] at this
      rw [get_cells8 news j hj] at hu
      injection hu with hu
      subst hu
      obtain ⟨b, off, e, _, hc⟩ := hr (by omega)
      injection e with e
      subst e
      rw [add_plain]
      exact hc j hj
    have hlen' : l.length + news.length ≤ 140737488355328 := by rwa [List.length_append] at hlen
    refine wpList_append_own w hgd s x 66 ho base 5 i0 (.int .u8 0) 1 1 Tryd.underlying66 hi0 hz0 hz1 hz2 rfl (by omega) v l.length (cells8 l) hs hown ad news.length c (cells8 news) hx (by rw [length_cells8, Nat.mul_one]) hcells (one_cells8 news)
      (by unfold maxLen; omega) (by omega) hbase ?_
    intro v' w' hown' hg _
    have hown2 : OwnV w' base v' (l ++ news) := by
      unfold OwnV
      rw [List.length_append]
      simpa [cells8] using hown'
    obtain ⟨A', cap', hv⟩ := hown2.form
    rw [hv] at hown2 ⊢
    exact h A' cap' w' hown2 ((Below.refl _ _).grown hg hbase (fun k hk => hown.blk k hk))
end Cd

end Go.Proofs.YtonfkonjkgalhaaDoor
