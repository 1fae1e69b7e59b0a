/- Bytes in memory that grow, and the smallest functions of wal. -/
import Derived.Test.YtogkaoiiddhdbaaSlc
import Derived.Lib.LazyBuf
namespace Go.Proofs.Ytogkaoiiddhdbaa
open Go.RowKit
set_option maxRecDepth 100000

namespace Wl
/-- The slice v owns the bytes l, in a block from base on (or is nil and l is empty). -/
def OwnV (w : World) (base : Nat) (v : Value) (l : List UInt8) : Prop := w.ownsRow base 5 1 v l.length (Dk.cells8 l)

section
variable {w w' : World} {base cap : Nat} {v : Value} {A : Option Addr} {l : List UInt8}
theorem OwnV.none_ (w : World) (base : Nat) : OwnV w base (.slice none 0 0) [] := World.ownsRow_nil w base 5 1
theorem OwnV.empty (w : World) (base : Nat) (h : base ≤ w.heap.size) : OwnV (w.alloc (.cells #[] 5)) base (.slice (some ⟨w.heap.size, 0, none⟩) 0 0) [] :=
  World.ownsRow_lit w #[] 0 h (Nat.zero_le _) rfl
theorem OwnV.form (h : OwnV w base v l) : ∃ A cap, v = .slice A l.length cap := by
  rcases h.2 with ⟨rfl, hn⟩ | ⟨g, cap, cur, rfl, _⟩
  · exact ⟨none, 0, by rw [hn]⟩
  · exact ⟨_, cap, rfl⟩
theorem OwnV.at_ (h : OwnV w base (.slice A l.length cap) l) (hl : 0 < l.length) : ∃ g, A = some ⟨g, 0, none⟩ ∧ base ≤ g ∧ g < w.heap.size := by
  rcases h.2 with ⟨_, hn⟩ | ⟨g, cap', cur, hv, hb, hh, _⟩
  · omega
  · injection hv with hA
    refine ⟨g, hA, hb, ?_⟩
    rcases Nat.lt_or_ge g w.heap.size with hlt | hge
    · exact hlt
    · rw [Array.getElem?_eq_none hge] at hh; cases hh
theorem OwnV.cell {g : Nat} (h : OwnV w base (.slice (some ⟨g, 0, none⟩) l.length cap) l) (j : Nat) (hj : j < l.length) : w.cell? ⟨g, j, none⟩ = some (.int .u8 (l[j].toNat : Int)) := by
  rw [World.ownsRow.cellAt h j (by omega), Dk.get_cells8 l j hj]
theorem OwnV.free {g : Nat} (h : OwnV w base (.slice (some ⟨g, 0, none⟩) l.length cap) l) (j : Nat) : w.frozen? ⟨g, j, none⟩ = false := World.ownsRow.frozenAt h j
theorem OwnV.bts (h : OwnV w base (.slice A l.length cap) l) : Dk.Bts w (fun k => base ≤ k ∧ k < w.heap.size) A l := fun hl => by
  obtain ⟨g, rfl, hgb, hg⟩ := h.at_ hl
  exact ⟨g, 0, rfl, ⟨hgb, hg⟩, fun j hj => by rw [Nat.zero_add]; exact h.cell j hj⟩
theorem OwnV.set {g : Nat} (h : OwnV w base (.slice (some ⟨g, 0, none⟩) l.length cap) l) (j : Nat) (c : UInt8) :
    OwnV (w.setCell ⟨g, j, none⟩ (.int .u8 (c.toNat : Int))) base (.slice (some ⟨g, 0, none⟩) l.length cap) (l.set j c) := by
  have := (World.ownsRow.stored h j (.int .u8 (c.toNat : Int))).1
  unfold OwnV
  rw [List.length_set]
  simpa [Dk.cells8, List.map_set, Dk.cell8] using this
theorem OwnV.keep (h : OwnV w base v l) (hk : ∀ g, base ≤ g → g < w.heap.size → w'.heap[g]? = w.heap[g]?) : OwnV w' base v l := by
  obtain ⟨h1, h2⟩ := h
  refine ⟨h1, ?_⟩
  rcases h2 with h2 | ⟨g, cap, cur, hv, hb, hh, r⟩
  · exact .inl h2
  · refine .inr ⟨g, cap, cur, hv, hb, ?_, r⟩
    rw [hk g hb ?_]
    · exact hh
    · rcases Nat.lt_or_ge g w.heap.size with hlt | hge
      · exact hlt
      · rw [Array.getElem?_eq_none hge] at hh; cases hh
theorem OwnV.below (h : OwnV w base v l) (hb : Below w.heap.size w w') : OwnV w' base v l := h.keep fun g _ hg => hb.block g hg
theorem OwnV.blk (h : OwnV w base v l) : ∀ k, v.ownBlock = some k → base ≤ k := fun k hk => (h.lt k hk).1
end

/-- append(out, xs...), out a row of the call's own, xs any bytes. -/
theorem wpList_append8 {w : World} {ops : Array Oper} {rest : List Oper} {o : Oper} {a : Act} {Q : Exit → Act → World → Prop} (hgd : o.guard = none) (s x : Operand)
    (ho : o.op = .call { callee := .builtin .append, args := #[s, x], argTypes := #[40, 40] })
    (base : Nat) (v : Value) (l news L : List UInt8) (hs : a.eval s = v) (hown : OwnV w base v l) (A : Option Addr) (c : Nat) (hx : a.eval x = .slice A news.length c) (hn : A = none → c = 0) {G : Nat → Prop} (hr : Dk.Bts w G A news)
    (hL : l ++ news = L) (hlen : L.length ≤ 140737488355328) (hbase : base ≤ w.heap.size)
    (h : ∀ A' cap' w', Hid (OwnV w' base (.slice A' L.length cap') L) → Below base w w' → wpList Try.prog ops Q rest (a.put o.dst (.slice A' L.length cap')) w') : wpList Try.prog ops Q (o :: rest) a w := by
  obtain ⟨i0, hi0, hz0, hz1, hz2⟩ := info_parts Dk.u8_info
  subst hL
  rcases A with _ | ad
  · have hne : news = [] := by
      rcases Nat.eq_zero_or_pos news.length with h0 | h0
      · exact List.eq_nil_of_length_eq_zero h0
      · obtain ⟨b, off, e, _⟩ := hr h0; cases e
    subst hne
    obtain rfl := hn rfl
    refine wpList_append_own_none hgd s x 40 ho base 5 i0 1 Try.underlying40 hi0 v l.length (Dk.cells8 l) hs hown hx ?_
    obtain ⟨A', cap', hv⟩ := hown.form
    have := h A' cap' w (by rw [List.append_nil]; exact hv ▸ hown) (Below.refl _ _)
    rw [List.append_nil] at this
    rw [hv]
    exact this
  · have hcells : ∀ j u, (Dk.cells8 news)[j]? = some u → w.cell? (ad.add j) = some u := by
      intro j u hu
      have hj : j < news.length := by
        have := (List.getElem?_eq_some_iff.1 hu).1
        rwa [Dk.length_cells8] at this
      rw [Dk.get_cells8 news j hj] at hu
      injection hu with hu
      subst hu
      obtain ⟨b, off, e, _, hc⟩ := hr (by omega)
      injection e with e
      subst e
      rw [Dk.add_plain]
      exact hc j hj
    have hlen' : l.length + news.length ≤ 140737488355328 := by rwa [List.length_append] at hlen
    refine wpList_append_own w hgd s x 40 ho base 5 i0 (.int .u8 0) 1 1 Try.underlying40 hi0 hz0 hz1 hz2 rfl (by omega) v l.length (Dk.cells8 l) hs hown ad news.length c (Dk.cells8 news) hx (by rw [Dk.length_cells8, Nat.mul_one]) hcells (Dk.one_cells8 news)
      (by unfold maxLen; omega) (by omega) hbase ?_
    intro v' w' hown' hg _
    have hown2 : OwnV w' base v' (l ++ news) := by
      unfold OwnV
      rw [List.length_append]
      simpa [Dk.cells8] using hown'
    obtain ⟨A', cap', hv⟩ := hown2.form
    rw [hv] at hown2 ⊢
    exact h A' cap' w' hown2 ((Below.refl _ _).grown hg hbase (fun k hk => hown.blk k hk))
end Wl


namespace Wl
theorem OwnV.bts' {w : World} {base : Nat} {A : Option Addr} {l : List UInt8} {n cap : Nat} (h : OwnV w base (.slice A n cap) l) (hn : n = l.length) : Dk.Bts w (fun k => base ≤ k ∧ k < w.heap.size) A l := by
  subst hn
  exact h.bts
/-- make([]byte, n). -/
theorem wpList_make {w : World} {ops : Array Oper} {rest : List Oper} {o : Oper} {a : Act} {Q : Exit → Act → World → Prop}
    (hg : o.guard = none) (x c : Operand) (hop : o.op = Op.makeSlice 40 x c) (L C : Int) (n : Nat) (hl : a.eval x = .int .i64 L) (hc : a.eval c = .int .i64 C) (hL : L = (n : Int)) (hC : C = (n : Int)) (hn : n ≤ 281474976710656)
    (hK : ∀ w', Hid (Dk.Row w' w.heap.size 5 (nul n)) → Below w.heap.size w w' → w.heap.size < w'.heap.size → wpList Try.prog ops Q rest (a.put o.dst (.slice (some ⟨w.heap.size, 0, none⟩) n n)) w') :
    wpList Try.prog ops Q (o :: rest) a w := Wd.wpList_make8 hg x c hop L C n hl hc hL hC hn hK
/-- The call answered new bytes. -/
def NewB (w : World) (l : List UInt8) (e : Ending) (w' : World) : Prop := ∃ A' c', e = .returned (.slice A' l.length c') ∧ Hid (OwnV w' w.heap.size (.slice A' l.length c') l) ∧ Below w.heap.size w w'
end Wl

theorem need_any (n : Nat) (w : World) (h : n ≤ 9223372036854775807) :
    Calls Try.prog 11 #[.int .i64 (n : Int)] w fun e w' => e = .returned (.int .i64 (Wl.need n : Int)) ∧ w = w' := by
  unfold Wl.need
  by_cases h1 : n = 0
  · subst h1
    go_enter Try.func11, Try.ntmps11
    go_wp2
    go_ret
    exact ⟨rfl, rfl⟩
  · obtain ⟨m, rfl⟩ : ∃ m, n = m + 1 := ⟨n - 1, by omega⟩
    have e : (((m + 1 - 1) / 491 + 1 : Nat) : Int) = (m : Int) / 491 + 1 := by omega
    rw [e]
    have h2 : ¬ ((m + 1 : Nat) : Int) < 1 := by omega
    go_enter Try.func11, Try.ntmps11
    go_wp2
    go_ret
    exact ⟨Wd.ret_int (by omega), rfl⟩
theorem area_any (n : Nat) (w : World) (h : n ≤ 9223372036854775807) :
    Calls Try.prog 13 #[.int .i64 (n : Int)] w fun e w' => e = .returned (.int .i64 (Wl.area n : Int)) ∧ w = w' := by
  unfold Wl.area
  by_cases h1 : n < 2
  · have h2 : (n : Int) < 2 := by omega
    go_enter Try.func13, Try.ntmps13
    go_wp2
    go_ret
    exact ⟨Wd.ret_int (by omega), rfl⟩
  · obtain ⟨m, rfl⟩ : ∃ m, n = m + 2 := ⟨n - 2, by omega⟩
    have h2 : ¬ ((m + 2 : Nat) : Int) < 2 := by omega
    go_enter Try.func13, Try.ntmps13
    go_wp2
    go_ret
    exact ⟨Wd.ret_int (by omega), rfl⟩
theorem firstSector_any (n g : Nat) (w : World) (h : n ≤ 4096) (hg : g < 4294967296) :
    Calls Try.prog 49 #[.int .i64 (n : Int), .int .u32 (g : Int)] w fun e w' => e = .returned (.int .i64 (Wl.first n g : Int)) ∧ w = w' := by
  unfold Wl.first
  have ha : Wl.area n ≤ 4096 := by unfold Wl.area; omega
  generalize hA : Wl.area n = A at ha ⊢
  have HA := Lib.hid hA
  clear hA
  have h2 : (g : Int) % 2 = 0 ∨ (g : Int) % 2 = 1 := by omega
  rcases h2 with h2 | h2
  all_goals
    have h3 : ((2 + g % 2 * A : Nat) : Int) = 2 + (g : Int) % 2 * A := by simp
    rw [h3, h2]
    go_enter Try.func49, Try.ntmps49
    go_wp2_with (go_at_call 13; refine (area_any n _ (by omega)).mono ?_; rw [HA.out]; rintro e w1 ⟨rfl, rfl⟩)
    go_ret
    exact ⟨Wd.ret_int (by omega), rfl⟩
theorem equal_any (w : World) (A B : Option Addr) (a b : List UInt8) (ca cb : Nat) (G G' : Nat → Prop) (ha : Dk.Bts w G A a) (hb : Dk.Bts w G' B b) :
    Calls Try.prog 88 #[.slice A a.length ca, .slice B b.length cb] w fun e w' => e = .returned (.bool (decide (a = b))) ∧ w = w' := by
  have h1 := Dk.conv ha ca
  have h2 := Dk.conv hb cb
  have h3 : Hid ((a == b) = decide (a = b)) := show _ = _ by by_cases h : a = b <;> simp [h]
  go_enter Try.func88, Try.ntmps88
  go_wp2
  go_ret
  exact ⟨by show Ending.returned (.bool (a == b)) = _; rw [h3.out], rfl⟩
theorem Wl.eql_nil (w : World) (a : Option Addr) (l c : Nat) : (binOp .eql 40 (.slice a l c) (.slice none 0 0)).run Try.prog w = .ok (.bool a.isNone) w :=
  run_eql_slice_nil w 40 5 a l c Try.underlying40
theorem clone_bytes (w : World) (A : Option Addr) (l : List UInt8) (c : Nat) (G : Nat → Prop) (h : Dk.Bts w G A l) (hn : A = none → c = 0) (hl : l.length ≤ 140737488355328) :
    Calls Try.prog 52 #[.slice A l.length c] w fun e w' => Wl.NewB w l e w' := by
  have H := Lib.hid h.lt
  clear h
  rcases A with _ | ad
  · have hl0 : l = [] := by
      rcases Nat.eq_zero_or_pos l.length with h0 | h0
      · exact List.eq_nil_of_length_eq_zero h0
      · obtain ⟨b, off, e, _⟩ := H.out h0; cases e
    subst hl0
    obtain rfl := hn rfl
    have he := Wl.eql_nil w none 0 0
    go_enter Try.func52, Try.ntmps52
    go_wp2
    go_ret
    exact ⟨none, 0, rfl, Wl.OwnV.none_ _ _, Below.refl _ _⟩
  · clear hn
    have HB : Hid (Dk.Bts (w.alloc (.cells #[] 5)) (fun k => G k ∧ k < w.heap.size) (some ad) l) := H.out.kept (fun k hk => Below.heap_alloc _ _ _ hk.2)
    have HO := Lib.hid (Wl.OwnV.empty w w.heap.size (Nat.le_refl _))
    have hbl := (Below.refl w.heap.size w).alloc (Nat.le_refl _) (.cells #[] 5)
    clear H
    have he := Wl.eql_nil w (some ad) l.length c
    go_enter Try.func52, Try.ntmps52
    go_wp2_with (refine Wl.wpList_append8 rfl _ _ rfl w.heap.size _ [] l l rfl HO.out (some ad) c rfl (by simp) HB.out (by simp) hl (by simp) ?_; intro A' c' w2 HO2 hb2)
    go_ret
    exact ⟨A', c', rfl, HO2, hbl.trans hb2⟩
end Go.Proofs.Ytogkaoiiddhdbaa
