/- Contract of wait: a write put behind those that wait. -/
import Derived.Test.YtogkaoiiddhdbaaLaws
import Derived.Maps.AppendAt
namespace Go.Proofs.Ytogkaoiiddhdbaa
open Go.RowKit

namespace Dk
theorem u77 : Try.prog.underlying 122 = some (((Try.prog.underlying 122).getD .bool)) := by kernel_rfl
theorem i77b : (Try.prog.info? 122).map (fun i => (i.zero, i.size, i.bytes)) = some (some (.agg (wr 0 zeros).toArray), 513, 520) := by kernel_rfl
theorem wp_append77 {w : World} {o : Oper} {a : Act} {Q : Exit → Act → World → Prop} {K : Act → World → Prop} (s x : Operand) (hop : o.op = .call { callee := .builtin .append, args := #[s, x], argTypes := #[85, 85] })
    (v : Value) (n : Nat) (xs : List Value) (hs : a.eval s = v) (hown : w.ownsRow 0 122 513 v n xs) (g : Nat) (i : Int) (l : List UInt8) (hl : l.length = 512)
    (hx : a.eval x = .slice (some ⟨g, 0, none⟩) 1 1) (hg : w.heap[g]? = some (.cells (wr i l).toArray 122 (0, 0))) (hn : n < 100000)
    (hK : ∀ v' w', w'.ownsRow 0 122 513 v' (n + 1) (xs ++ wr i l) → w.grownBy w' v.ownBlock → (v'.ownBlock = v.ownBlock ∨ v'.ownBlock = some w.heap.size) → K (a.put o.dst v') w') : o.wp Try.prog a w K Q := by
  obtain ⟨i0, hi0, hz0, hz1, hz2⟩ := info_parts i77b
  obtain ⟨v', w', hr, h2, h3, _, h5⟩ := run_append_own_at (P := Try.prog) w 0 85 o.type 122 i0 _ 513 520 u61 hi0 hz0 hz1 hz2 (by simp [Value.cells, length_wr, length_zeros]) (by omega) v n xs hown ⟨g, 0, none⟩ 1 1 (wr i l) (by rw [length_wr, hl]) (by
    intro j u hu
    rw [add_plain, Nat.zero_add, cell_of_row w g j _ _ _ hg]
    simpa using hu) (one_wr i l) (by unfold maxLen; omega) (by omega) (by omega)
  unfold Oper.wp execOp
  simp only [hop, resolve, invoke, builtin, Sem.run_bind, Sem.run_pure, Result.andThen_ok, List.map_toArray, List.map_cons, List.map_nil, hs, hx, hr]
  exact hK v' w' h2 h3 h5
theorem rangeAt_whole {w : World} {g : Nat} {cs : List Value} {t : TypeId} (h : w.heap[g]? = some (.cells cs.toArray t (0, 0))) : w.rangeAt g 0 cs := by
  intro j v hv
  rw [Nat.zero_add, cell_of_row w g j _ _ _ h]
  simpa using hv
end Dk

set_option maxRecDepth 100000 in
set_option maxHeartbeats 1000000 in
theorem wait_any (w : World) (p a c : Nat) (v : Value) (s : Dk.S) (i : Int) (A : Option Addr) (l : List UInt8) (cp : Nat) (G : Nat → Prop) (h : Dk.At w p a c v s) (hb : Dk.Bts w G A l) (hl : l.length = 512) (hw : s.wait.length < 100000) :
    Calls Try.prog 65 #[.pointer (some ⟨p, 0, none⟩), .int .i64 i, .slice A 512 cp] w fun e w' => e = .returned noResult ∧ Hid (∃ F', Dk.Dsk w' p F' (s.put i l) ∧ Dk.Moved w (Dk.Own p a c v) w' F') := by
  have H := Lib.hid h
  have HB2 : Hid (∀ w1 w2, Below w.heap.size w w1 → Dk.Fr (· = w.heap.size) w1 w2 → Dk.Bts w2 (fun k => G k ∧ k < w.heap.size) A l) := fun w1 w2 h1 h2 =>
    (hb.lt.kept (fun k hk => h1.block k hk.2)).fr h2 (fun k hk e => by omega)
  clear h hb
  go_enter Try.func65, Try.ntmps65
  go_wp2_with (first
    | (refine Dk.wpList_build77 rfl _ rfl i rfl ?_)
    | (refine Dk.wpList_alloc rfl 122 rfl _ (Dk.z77 _) ?_; intro w1 hg1 hb1 hs1)
    | (refine Dk.wpList_store_whole rfl 122 _ _ rfl w.heap.size rfl (Dk.wr i Dk.zeros) rfl _ _ hg1 (by rw [Dk.length_wr, Dk.length_zeros]; exact Dk.i77) (by rw [List.size_toArray, Dk.length_wr, Dk.length_wr]) (Dk.one_wr _ _) ?_; intro w2 hg2 hf2)
    | (refine Dk.wpList_copy_wr rfl _ _ rfl w.heap.size _ A cp l hl rfl rfl (HB2.out w1 w2 hb1 hf2) i hg2 ?_; intro w3 hg3 hf3))
  have h3 : Dk.At w3 p a c v s := H.out.kept (fun k hk => by
    have hk' := H.out.lt k hk
    rw [hf3.block k (by have := hf2.size; omega) (by omega), hf2.block k (by omega) (by omega), hb1.block k hk'])
  have hF3 : Dk.Fr (fun _ => False) w w3 := ⟨by rw [hf3.os, hf2.os, hb1.os], by rw [hf3.tape, hf2.tape, hb1.tape], by rw [hf3.output, hf2.output, hb1.output], by have := hf3.size; have := hf2.size; omega, fun k hk _ => by
    rw [hf3.block k (by have := hf2.size; omega) (by omega), hf2.block k (by omega) (by omega), hb1.block k hk]⟩
  have hlt3 : w.heap.size < w3.heap.size := by have := hf3.size; have := hf2.size; omega
  obtain ⟨B, cap, hv⟩ := Dk.slice_of _ _ _ _ h3.row
  obtain ⟨w4, hq, hm, hf4⟩ := Dk.run_upd (w := w3.drew) (h3.late.kept (w' := w3.drew) rfl) i Dk.u60 (.int .i64 (s.wait.length : Int))
  subst hv
  have c2 := h3.c2
  have c3 := h3.c3
  have hk4 : ∀ k, k < w3.heap.size → k ≠ c → w4.heap[k]? = w3.heap[k]? := fun k hk hc => hf4.block k hk hc
  have hp := Dk.lt_of_some h3.str
  have hgc : w.heap.size ≠ c := by have := H.out.lt c (.inr (.inr (.inl rfl))); omega
  have hgp : w.heap.size ≠ p := by have := H.out.lt p (.inl rfl); omega
  have s4 : w4.heap[p]? = w3.heap[p]? := hk4 p hp h3.pc
  have c2' : w4.cell? ⟨p, 2, none⟩ = some (.slice B s.wait.length cap) := (World.cell?_of_block (a := ⟨p, 2, none⟩) s4).trans c2
  have c3' : w4.cell? ⟨p, 3, none⟩ = some (.map (some c)) := (World.cell?_of_block (a := ⟨p, 3, none⟩) s4).trans c3
  have f2' : w4.frozen? ⟨p, 2, none⟩ = false := (World.frozen?_of_block (a := ⟨p, 2, none⟩) s4).trans (h3.free 2)
  have hg4 : w4.heap[w.heap.size]? = some (.cells (Dk.wr i l).toArray 122 (0, 0)) := (hk4 _ hlt3 hgc).trans hg3
  have R4 : w4.drew.rangeAt w.heap.size 0 (Dk.wr i l) := Dk.rangeAt_whole (w := w4) hg4
  have R5 : (w4.drew.alloc (.cells (Dk.wr i l).toArray 122)).rangeAt w.heap.size 0 (Dk.wr i l) := Dk.rangeAt_whole ((Dk.heap_alloc_lt w4.drew _ _ (Dk.lt_of_some hg4)).trans hg4)
  have c25 : (w4.alloc (.cells (Dk.wr i l).toArray 122)).cell? ⟨p, 2, none⟩ = some (.slice B s.wait.length cap) := (World.cell?_of_block (a := ⟨p, 2, none⟩) (Dk.heap_alloc_lt w4 _ p (by have := hf4.size; have hx : w3.drew.heap.size = w3.heap.size := rfl; omega))).trans c2'
  have O5 : Hid ((w4.drew.alloc (.cells (Dk.wr i l).toArray 122)).ownsRow 0 122 513 (.slice B s.wait.length cap) s.wait.length (Dk.flat s.wait)) := by
    have h4 : w4.ownsRow 0 122 513 (.slice B s.wait.length cap) s.wait.length (Dk.flat s.wait) := Dk.ownsRow_kept h3.row (fun g hg => hk4 g (h3.row.lt g hg).2 (fun e => h3.cv (e ▸ hg)))
    exact World.ownsRow.alloc (w := w4.drew) h4 _
  have X5 : (w4.drew.alloc (.cells (Dk.wr i l).toArray 122)).heap[w4.heap.size]? = some (.cells (Dk.wr i l).toArray 122 (0, 0)) := heap_alloc_new w4.drew _
  have HT : Hid (∀ v' w6, World.ownsRow w6 0 122 513 v' (s.wait.length + 1) (Dk.flat s.wait ++ Dk.wr i l) → (w4.drew.alloc (.cells (Dk.wr i l).toArray 122)).grownBy w6 (Value.ownBlock (.slice B s.wait.length cap)) → (v'.ownBlock = Value.ownBlock (.slice B s.wait.length cap) ∨ v'.ownBlock = some (w4.drew.alloc (.cells (Dk.wr i l).toArray 122)).heap.size) →
      (∃ g' cap', v' = .slice (some ⟨g', 0, none⟩) (s.wait.length + 1) cap') ∧ w6.rangeAt w.heap.size 0 (Dk.wr i l) ∧ w6.cell? ⟨p, 2, none⟩ = some (.slice B s.wait.length cap) ∧ w6.frozen? ⟨p, 2, none⟩ = false ∧
      Hid ((w6.setCell ⟨p, 2, none⟩ v').rangeAt w.heap.size 0 (Dk.wr i l) ∧ Hid (∃ F', Dk.Dsk (w6.setCell ⟨p, 2, none⟩ v') p F' (s.put i l) ∧ Dk.Moved w (Dk.Own p a c (.slice B s.wait.length cap)) (w6.setCell ⟨p, 2, none⟩ v') F'))) := by
    intro v' w6 hO hG hV
    have hs34 : w3.heap.size ≤ w4.heap.size := hf4.size
    have hs5 : (w4.drew.alloc (.cells (Dk.wr i l).toArray 122)).heap.size = w4.heap.size + 1 := by simp
    have hk5 : ∀ k, k < w4.heap.size → some k ≠ Value.ownBlock (.slice B s.wait.length cap) → w6.heap[k]? = w4.heap[k]? := fun k hk hne =>
      (hG.block k (by omega) hne).trans (Dk.heap_alloc_lt w4.drew _ k hk)
    have hk6 : ∀ k, k < w3.heap.size → k ≠ c → Value.ownBlock (.slice B s.wait.length cap) ≠ some k → w6.heap[k]? = w3.heap[k]? := fun k hk hc hne =>
      (hk5 k (by omega) (fun e => hne e.symm)).trans (hk4 k hk hc)
    have hlc := h3.late.lt
    have hla := h3.safe.lt
    have hgv : Value.ownBlock (.slice B s.wait.length cap) ≠ some w.heap.size := fun e => by
      have := H.out.lt w.heap.size (.inr (.inr (.inr e)))
      omega
    have hvp : v'.ownBlock ≠ some p := fun e => by
      rcases hV with hV | hV
      · exact h3.pv (hV ▸ e)
      · rw [hV] at e; injection e with e; omega
    have hva : v'.ownBlock ≠ some a := fun e => by
      rcases hV with hV | hV
      · exact h3.av (hV ▸ e)
      · rw [hV] at e; injection e with e; omega
    have hvc : v'.ownBlock ≠ some c := fun e => by
      rcases hV with hV | hV
      · exact h3.cv (hV ▸ e)
      · rw [hV] at e; injection e with e; omega
    have hp6 : w6.heap[p]? = w3.heap[p]? := hk6 p hp h3.pc h3.pv
    have hg6 : w6.heap[w.heap.size]? = some (.cells (Dk.wr i l).toArray 122 (0, 0)) := (hk6 _ hlt3 hgc hgv).trans hg3
    have hset : ∀ k, k ≠ p → (w6.setCell ⟨p, 2, none⟩ v').heap[k]? = w6.heap[k]? := fun k hk => Below.heap_setCell _ _ _ _ hk
    refine ⟨?_, Dk.rangeAt_whole hg6, (World.cell?_of_block (a := ⟨p, 2, none⟩) hp6).trans c2, (World.frozen?_of_block (a := ⟨p, 2, none⟩) hp6).trans (h3.free 2), Dk.rangeAt_whole ((hset _ hgp).trans hg6), Dk.Own p a c v', ⟨a, c, v', ⟨?_, ?_, ?_, ?_, h3.pa, h3.pc, h3.ac, hvp, hva, hvc, ?_, h3.oks⟩, rfl⟩, ?_, ?_⟩
    · rcases hO.2 with hO | ⟨g', cap', cur, hO, _⟩
      · omega
      · exact ⟨g', cap', hO⟩
    · exact Dk.set_row (hp6.trans h3.str) 2 v'
    · exact h3.safe.kept ((hset a (Ne.symm h3.pa)).trans (hk6 a hla h3.ac h3.av))
    · refine (hm.kept ((hset c (Ne.symm h3.pc)).trans (hk5 c (by omega) (fun e => h3.cv e.symm)))).congr (fun k => ?_)
      show _ = Dk.ixV (Dk.lastIx (s.wait ++ [(i, l)]) k)
      rw [Dk.lastIx_snoc]
      by_cases hki : k = i
      · subst hki; simp [Dk.ixV]
      · rw [if_neg hki, if_neg (Ne.symm hki)]
    · show World.ownsRow _ 0 122 513 v' (s.wait ++ [(i, l)]).length (Dk.flat (s.wait ++ [(i, l)]))
      rw [Dk.flat_snoc, List.length_append]
      exact Dk.ownsRow_kept hO (fun g hg => hset g (fun e => hvp (e ▸ hg)))
    · intro x hx
      rcases List.mem_append.1 hx with hx | hx
      · exact h3.okw x hx
      · simp at hx; subst hx; exact hl
    · refine ⟨?_, ?_, ?_, ?_, ?_⟩
      · show w6.os = _
        rw [hG.os]; show w4.os = _; rw [hf4.os]; show w3.os = _; rw [hF3.os]
      · show w6.tape = _
        rw [hG.tape]; show w4.tape = _; rw [hf4.tape]; show w3.tape = _; rw [hF3.tape]
      · show w6.output = _
        rw [hG.output]; show w4.output = _; rw [hf4.output]; show w3.output = _; rw [hF3.output]
      · have h1 : (w6.setCell ⟨p, 2, none⟩ v').heap.size = w6.heap.size := by simp [World.setCell]
        have h2 := hG.size
        omega
      · intro k hk hF
        have e1 : k ≠ p := fun e => hF (.inl e)
        have e2 : k ≠ c := fun e => hF (.inr (.inr (.inl e)))
        rw [hset k e1, hk6 k (by omega) e2 (fun e => hF (.inr (.inr (.inr e)))), hF3.block k hk (fun h => h)]
    · rintro k (h | h | h | h)
      · exact .inl (.inl h)
      · exact .inl (.inr (.inl h))
      · exact .inl (.inr (.inr (.inl h)))
      · rcases hV with hV | hV
        · exact .inl (.inr (.inr (.inr (hV ▸ h))))
        · rw [hV] at h; injection h with h; right; omega
  have H3 := Lib.hid h3
  clear hm h3 H HB2 hb1 hs1 hg1 hg2 hf2 hg3 hf3 hF3 hk4 hgc hgp s4 hg4 hlt3 hp
  go_region_held3 (fun w' => w'.cell? ⟨p, 2, none⟩ = some (.slice B s.wait.length cap) ∧ w'.cell? ⟨p, 3, none⟩ = some (.map (some c))) (first | exact ⟨c2, c3⟩ | exact ⟨c2', c3'⟩) (first | fail)
  go_wp2
  refine wp_region_noPanic ?_
  refine wp_region_held_drew (S := fun w' => w'.rangeAt w.heap.size 0 (Dk.wr i l)) (by kernel_rfl) R4 (fun hHeld => ?_)
  refine wpAnyH_take (i := 0) (oi := ⟨some 23, _, _, _, _, _⟩) (v := ?_) rfl (by kernel_rfl) (by kernel_rfl) (by kernel_rfl) (fun _ _ _ h => h) (Or.inl ⟨by rfl, ?_⟩) (by assumption) ?_
  rotate_left
  · (intro w hSw; (try dsimp only at hSw); go_simp <;> with_reducible rfl)
  try simp only [Act.put]
  try simp only [List.setIfInBounds_toArray]
  try simp only [List.set_cons_succ]
  try simp only [List.set_cons_zero]
  refine wpAnyH_take (i := 1) (oi := ⟨some 24, _, _, _, _, _⟩) (v := ?_) rfl (by kernel_rfl) (by kernel_rfl) (by kernel_rfl) (fun _ _ _ h => h) (Or.inl ⟨by rfl, ?_⟩) (by assumption) ?_
  rotate_left
  · (intro w hSw; (try dsimp only at hSw); go_simp <;> with_reducible rfl)
  try simp only [Act.put]
  try simp only [List.setIfInBounds_toArray]
  try simp only [List.set_cons_succ]
  try simp only [List.set_cons_zero]
  refine wpAnyH_take (i := 2) (oi := ⟨some 25, _, _, _, _, _⟩) (v := ?_) rfl (by kernel_rfl) (by kernel_rfl) (by kernel_rfl) (fun _ _ _ h => h) (Or.inl ⟨by rfl, ?_⟩) (by assumption) ?_
  rotate_left
  · (intro w hSw; (try dsimp only at hSw); go_simp <;> with_reducible rfl)
  try simp only [Act.put]
  try simp only [List.setIfInBounds_toArray]
  try simp only [List.set_cons_succ]
  try simp only [List.set_cons_zero]
  refine wpAnyH_take (i := 3) (oi := ⟨some 26, _, _, _, _, _⟩) (v := ?_) rfl (by kernel_rfl) (by kernel_rfl) (by kernel_rfl) (fun _ _ _ h => h) (Or.inl ⟨by rfl, ?_⟩) (by assumption) ?_
  rotate_left
  · (intro w hSw; (try dsimp only at hSw); go_simp <;> with_reducible rfl)
  try simp only [Act.put]
  try simp only [List.setIfInBounds_toArray]
  try simp only [List.set_cons_succ]
  try simp only [List.set_cons_zero]
  refine wpAnyH_take (i := 5) (oi := ⟨some 28, _, _, _, _, _⟩) (v := .agg (Dk.wr i l).toArray) rfl (by kernel_rfl) (by kernel_rfl) (by kernel_rfl) (fun _ _ _ h => h) (yieldsIf_load_mid (by rfl) 122 _ rfl w.heap.size 0 rfl (Dk.wr i l) _ (fun _ h => h) Dk.u77 rfl (by rw [Dk.length_wr, hl]; exact Dk.i77)) (by assumption) ?_
  try simp only [Act.put]
  try simp only [List.setIfInBounds_toArray]
  try simp only [List.set_cons_succ]
  try simp only [List.set_cons_zero]
  refine wpAnyH_ready (rs := [4, 6]) (by kernel_rfl) (by simp) ?_
  refine AllReadyH.cons (o := ⟨some 27, _, _, _, _, _⟩) rfl (fun K hK => ?_) (AllReadyH.cons (o := ⟨some 29, _, _, _, _, _⟩) rfl (fun K hK => ?_) AllReadyH.nil)
  · go_simp
    refine hK.out _ _ ?_ (fun hHeld2 => ?_)
    · exact hHeld
    clear hK K
    try simp only [Act.put]
    try simp only [List.setIfInBounds_toArray]
    try simp only [List.set_cons_succ]
    try simp only [List.set_cons_zero]
    refine wpAnyH_ready (rs := [6]) (by kernel_rfl) (by simp) ?_
    refine AllReadyH.cons (o := ⟨some 29, _, _, _, _, _⟩) rfl (fun K hK => ?_) AllReadyH.nil
    rw [if_pos (by rfl)]
    refine Dk.wp_buildSlice _ rfl i l hl rfl ?_
    refine hK.out _ _ ?_ (fun hHeld3 => ?_)
    · exact R5
    clear hK K
    try simp only [Act.put]
    try simp only [List.setIfInBounds_toArray]
    try simp only [List.set_cons_succ]
    try simp only [List.set_cons_zero]
    refine wpAnyH_ready (rs := [7]) (by kernel_rfl) (by simp) ?_
    refine AllReadyH.cons (o := ⟨some 30, _, _, _, _, _⟩) rfl (fun K hK => ?_) AllReadyH.nil
    rw [if_pos (by rfl)]
    refine Dk.wp_append77 _ _ rfl (.slice B s.wait.length cap) s.wait.length (Dk.flat s.wait) rfl O5.out w4.heap.size i l hl rfl X5 hw ?_
    intro v' w6 O6 g6 V6
    obtain ⟨⟨g', cap', rfl⟩, R6, c6, f6, HE⟩ := HT.out v' w6 O6 g6 V6
    clear O6 g6 V6
    refine hK.out _ _ ?_ (fun hHeld4 => ?_)
    · exact R6
    clear hK K
    try simp only [Act.put]
    try simp only [List.setIfInBounds_toArray]
    try simp only [List.set_cons_succ]
    try simp only [List.set_cons_zero]
    refine wpAnyH_take (i := 8) (oi := ⟨some 31, _, _, _, _, _⟩) (v := ?_) rfl (by kernel_rfl) (by kernel_rfl) (by kernel_rfl) (fun _ _ _ h => h) (Or.inl ⟨by rfl, ?_⟩) (by assumption) ?_
    rotate_left
    · (intro w hSw; (try dsimp only at hSw); go_simp <;> with_reducible rfl)
    try simp only [Act.put]
    try simp only [List.setIfInBounds_toArray]
    try simp only [List.set_cons_succ]
    try simp only [List.set_cons_zero]
    refine wpAnyH_take (i := 9) (oi := ⟨some 32, _, _, _, _, _⟩) (v := ?_) rfl (by kernel_rfl) (by kernel_rfl) (by kernel_rfl) (fun _ _ _ h => h) (Or.inl ⟨by rfl, ?_⟩) (by assumption) ?_
    rotate_left
    · (intro w hSw; (try dsimp only at hSw); go_simp <;> with_reducible rfl)
    try simp only [Act.put]
    try simp only [List.setIfInBounds_toArray]
    try simp only [List.set_cons_succ]
    try simp only [List.set_cons_zero]
    refine wpAnyH_ready (rs := [10]) (by kernel_rfl) (by simp) ?_
    refine AllReadyH.cons (o := ⟨none, _, _, _, _, _⟩) rfl (fun K hK => ?_) AllReadyH.nil
    go_simp
    refine hK.out _ _ ?_ (fun hHeld5 => ?_)
    · exact HE.out.1
    clear hK K
    try simp only [Act.put]
    try simp only [List.setIfInBounds_toArray]
    try simp only [List.set_cons_succ]
    try simp only [List.set_cons_zero]
    refine wpAnyH_done (by kernel_rfl) ?_ _
    refine NoPanic.normal ?_
    go_end0
    exact ⟨rfl, HE.out.2⟩
  · rw [if_pos (by rfl)]
    refine Dk.wp_buildSlice _ rfl i l hl rfl ?_
    refine hK.out _ _ ?_ (fun hHeld3 => ?_)
    · exact R5
    clear hK K
    try simp only [Act.put]
    try simp only [List.setIfInBounds_toArray]
    try simp only [List.set_cons_succ]
    try simp only [List.set_cons_zero]
    refine wpAnyH_ready (rs := [4]) (by kernel_rfl) (by simp) ?_
    refine AllReadyH.cons (o := ⟨some 27, _, _, _, _, _⟩) rfl (fun K hK => ?_) AllReadyH.nil
    go_simp
    refine hK.out _ _ ?_ (fun hHeld2 => ?_)
    · exact R5
    clear hK K
    try simp only [Act.put]
    try simp only [List.setIfInBounds_toArray]
    try simp only [List.set_cons_succ]
    try simp only [List.set_cons_zero]
    refine wpAnyH_ready (rs := [7]) (by kernel_rfl) (by simp) ?_
    refine AllReadyH.cons (o := ⟨some 30, _, _, _, _, _⟩) rfl (fun K hK => ?_) AllReadyH.nil
    rw [if_pos (by rfl)]
    refine Dk.wp_append77 _ _ rfl (.slice B s.wait.length cap) s.wait.length (Dk.flat s.wait) rfl O5.out w4.heap.size i l hl rfl X5 hw ?_
    intro v' w6 O6 g6 V6
    obtain ⟨⟨g', cap', rfl⟩, R6, c6, f6, HE⟩ := HT.out v' w6 O6 g6 V6
    clear O6 g6 V6
    refine hK.out _ _ ?_ (fun hHeld4 => ?_)
    · exact R6
    clear hK K
    try simp only [Act.put]
    try simp only [List.setIfInBounds_toArray]
    try simp only [List.set_cons_succ]
    try simp only [List.set_cons_zero]
    refine wpAnyH_take (i := 8) (oi := ⟨some 31, _, _, _, _, _⟩) (v := ?_) rfl (by kernel_rfl) (by kernel_rfl) (by kernel_rfl) (fun _ _ _ h => h) (Or.inl ⟨by rfl, ?_⟩) (by assumption) ?_
    rotate_left
    · (intro w hSw; (try dsimp only at hSw); go_simp <;> with_reducible rfl)
    try simp only [Act.put]
    try simp only [List.setIfInBounds_toArray]
    try simp only [List.set_cons_succ]
    try simp only [List.set_cons_zero]
    refine wpAnyH_take (i := 9) (oi := ⟨some 32, _, _, _, _, _⟩) (v := ?_) rfl (by kernel_rfl) (by kernel_rfl) (by kernel_rfl) (fun _ _ _ h => h) (Or.inl ⟨by rfl, ?_⟩) (by assumption) ?_
    rotate_left
    · (intro w hSw; (try dsimp only at hSw); go_simp <;> with_reducible rfl)
    try simp only [Act.put]
    try simp only [List.setIfInBounds_toArray]
    try simp only [List.set_cons_succ]
    try simp only [List.set_cons_zero]
    refine wpAnyH_ready (rs := [10]) (by kernel_rfl) (by simp) ?_
    refine AllReadyH.cons (o := ⟨none, _, _, _, _, _⟩) rfl (fun K hK => ?_) AllReadyH.nil
    go_simp
    refine hK.out _ _ ?_ (fun hHeld5 => ?_)
    · exact HE.out.1
    clear hK K
    try simp only [Act.put]
    try simp only [List.setIfInBounds_toArray]
    try simp only [List.set_cons_succ]
    try simp only [List.set_cons_zero]
    refine wpAnyH_done (by kernel_rfl) ?_ _
    refine NoPanic.normal ?_
    go_end0
    exact ⟨rfl, HE.out.2⟩
end Go.Proofs.Ytogkaoiiddhdbaa
