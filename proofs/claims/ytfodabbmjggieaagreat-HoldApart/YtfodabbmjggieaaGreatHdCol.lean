/- slices.Collect of the legs of a set. -/
import Derived.Test.YtfodabbmjggieaaGreatHdIt
namespace Go.Proofs.YtfodabbmjggieaaGreat
open Go.RowKit Go.WideMaps
set_option linter.unusedVariables false

attribute [local go_sem] Oper.semAt_some
theorem keys_stops (F : Fence) (n : Nat) (hf : F.fn 57) (hro : F.round = none) (hn : 1 ≤ n) (Bm m : Nat) (ls : List Hd.L) (w : World) (hBm : Bm < w.heap.size)
    (hm : w.cell? ⟨Bm, 0, none⟩ = some (.map (some m))) (hown : Mp.MapS Tryz.prog 35 w m (ls.map Hd.entL)) :
    SeqStopsK F n Tryz.prog 57 #[.pointer (some ⟨Bm, 0, none⟩)] (fun x => #[Hd.lv x]) KeepsWalks (fun xs => xs.Perm ls) (fun _ => True) ls.length w := fun l J Jx W hW hJ _ hY h0 =>
  keys1_in F n hf hro hn l Bm m ls J Jx hY W hJ ((hW.cell (p := ⟨Bm, 0, none⟩) hBm).trans hm) (hown.kept (hW.block m hown.lt)) h0
namespace Hd
section
variable {F : Fence} {n : Nat} {w : World} {ops : Array Oper} {rest : List Oper} {o : Oper} {a : Act} {Q : Exit → Act → World → Prop}
theorem wpListIn_buildL (hg : o.guard = none) (y : Operand) (hop : o.op = Op.buildSlice 57 1 #[(0, y)]) (x : L) (hx : a.eval y = .agg #[.string x.car, .int .i64 x.num, .int .i64 x.day])
    (hK : ∀ w', Hid (Rw.Blk w' w.heap.size 35 (encL x)) → w' = w.alloc (.cells (encL x).toArray 35) → wpListIn F n Tryz.prog ops Q rest (a.put o.dst (.slice (some ⟨w.heap.size, 0, none⟩) 1 1)) w') : wpListIn F n Tryz.prog ops Q (o :: rest) a w := by
  refine wpListIn_plain hg fun K' hK' => ?_
  have hr := run_buildL x w
  unfold encL at hr
  unfold Oper.wpIn
  refine ⟨by simp [Oper.about, hop], ?_⟩
  rw [Oper.semAt_plain F _ _ (by rw [hop]; intro c hc'; cases hc')]
  simp [execOp, hop, hx, hr, Result.andThen]
  exact hK' _ _ (hK _ (heap_alloc_new w _) rfl)
end
end Hd
theorem walks_of {W W' : World} (h : KeepsOthers W W') : KeepsWalks W W' := ⟨h.size, fun k o hk ho => h.same k o hk (Obj.not_cells_of_walk ho)⟩
set_option maxRecDepth 100000 in
set_option maxHeartbeats 2000000 in
theorem appendSeq_in (F : Fence) (n : Nat) (hf : F.fn 80) (hk : F.fn 57) (hro : F.round = none) (hn : 3 ≤ n) (Bm m : Nat) (ls : List Hd.L) (w : World) (hBm : Bm < w.heap.size)
    (hm : w.cell? ⟨Bm, 0, none⟩ = some (.map (some m))) (hown : Mp.MapS Tryz.prog 35 w m (ls.map Hd.entL)) (hl : ls.length ≤ 100000) :
    CallsIn F n Tryz.prog 80 #[.slice none 0 0, .func (.func 57) #[] #[.pointer (some ⟨Bm, 0, none⟩)]] w fun e w' => ∃ v ls', e = .returned v ∧ ls'.Perm ls ∧ Hd.OwnL w' w.heap.size v ls' ∧ Below w.heap.size w w' := by
  have h1 : 1 ≤ n := by omega
  obtain ⟨i0, hi, hz0, hz1, hz2⟩ := Hd.infoL'
  refine callsIn_of_wp_marks Tryz.func80 rfl hf ?_ hro
  simp only [Tryz.ntmps80, List.size_toArray, List.length_cons, List.length_nil, Nat.reduceAdd, Nat.reduceSub, Array.replicate_succ, Array.replicate_zero, List.push_toArray, List.append_toArray, List.nil_append, List.cons_append]
  gi_wp2
  have bO := Boxed.new w 57 (.slice none 0 0)
  have hB0 : Below w.heap.size w (w.alloc (.cells #[.slice none 0 0] 57)) := (Below.refl _ w).alloc (Nat.le_refl _) _
  have hsz : (w.alloc (.cells #[.slice none 0 0] 57)).heap.size = w.heap.size + 1 := by simp
  obtain ⟨W0, hW0⟩ : ∃ W0, w.alloc (.cells #[.slice none 0 0] 57) = W0 := ⟨_, rfl⟩
  rw [hW0] at bO hB0 hsz ⊢
  clear hW0
  refine wpIn_rangeFunc_ownH hro h1 (gf := 57) (lb := #[.pointer (some ⟨Bm, 0, none⟩)]) rfl hk (enters_of Tryz.func57 (by kernel_rfl) rfl)
    (keys_stops F (n - 1) hk hro (by omega) Bm m ls W0 (by omega) ((hB0.cell (p := ⟨Bm, 0, none⟩) hBm).trans hm) (hown.kept (hB0.block m hown.lt))) walksK_t walksK_b (Below.refl _ _) (fun _ => rfl)
    (fun pre W => (∃ v, Boxed W w.heap.size 57 v ∧ W.ownsRow w.heap.size 35 3 v pre.length (Hd.flatL pre) ∧ True) ∧ Below w.heap.size w W)
    (fun _ _ _ => False)
    (OwnFrom.and (Own.from (holdsRow_own w.heap.size w.heap.size 57 35 3 (fun pre => pre.length) (fun pre => Hd.flatL pre) (fun _ _ => True)) _) (ownFrom_below (Nat.le_refl _) (by omega)))
    (fun _ _ _ _ _ hs _ _ => hs)
    ⟨⟨_, bO, World.ownsRow_nil _ _ _ _, trivial⟩, hB0⟩
    (fun x a' W => ∃ Bx, w.heap.size < Bx ∧ Rw.Blk W Bx 35 (Hd.encL x) ∧ a' = { tmps := #[.slice none 0 0, .func (.func 57) #[] #[.pointer (some ⟨Bm, 0, none⟩)], .pointer (some ⟨w.heap.size, 0, none⟩), undef, .slice none 0 0, .pointer (some ⟨Bx, 0, none⟩), .func (.func 57) #[] #[.pointer (some ⟨Bm, 0, none⟩)], Hd.lv x, undef, undef, undef, undef, undef], defers := [] })
    (fun x a' _ X Y row hs hg hr => by
      obtain ⟨Bx, h1, h2, h3⟩ := hs
      refine ⟨Bx, h1, (hg.block Bx h2.lt fun e => ?_).trans h2, h3⟩
      obtain ⟨_, o, ho, hc⟩ := hr Bx e.symm
      rw [show X.heap[Bx]? = _ from h2] at ho
      cases ho
      cases hc)
    ?assign ?body ?done ?stop
  case assign =>
    rintro l pre x W K ⟨⟨v, hv, hrow, _⟩, hB⟩ hK
    obtain ⟨car, num, day⟩ := x
    unfold Hd.lv at hK ⊢
    simp only at hK ⊢
    gi_wp2
    exact hK _ _ ((KeepsOthers.alloc _ _).from _) (KeepsWalks.alloc _ _) ⟨⟨v, hv.alloc _, hrow.alloc _, trivial⟩, hB.alloc hB.size _⟩ ⟨W.heap.size, hv.lt, heap_alloc_new W _, rfl⟩
  case body =>
    rintro l pre x a' W hl' ⟨r, hr⟩ ⟨⟨v, hv, hrow, _⟩, hB⟩ ⟨Bx, hBx, bX, rfl⟩ hlt
    have hc := hv.cell
    obtain ⟨car, num, day⟩ := x
    have c0 := bX.cell 0
    have c1 := bX.cell 1
    have c2 := bX.cell 2
    unfold Hd.encL at c0 c1 c2
    simp only [List.getElem?_cons_zero, List.getElem?_cons_succ] at c0 c1 c2
    gi_wp2_with (first
      | (refine Hd.wpListIn_buildL rfl _ rfl ⟨car, num, day⟩ rfl ?_; intro w5 HK5 hw5; subst hw5)
      | (gi_at_builtin; refine wpListIn_append_own _ rfl _ _ 57 rfl w.heap.size 35 i0 (.agg (Hd.encL ⟨⟨#[]⟩, 0, 0⟩).toArray) 3 32 Tryz.underlying57 hi hz0 hz1 hz2 rfl (by decide) _ _ _ rfl (hrow.alloc _) ⟨W.heap.size, 0, none⟩ 1 1 (Hd.encL ⟨car, num, day⟩) rfl rfl (fun j u hu => by rw [Addr.add_mid, Nat.zero_add, HK5.out.cell j]; exact hu) (Hd.encL_one _) (by unfold maxLen; omega) (by omega) (by have := hB.size; simp; omega) ?_; intro v' w1 hown' hgrow _; obtain ⟨g', cap', rfl⟩ := ownsRow_succ hown'; obtain ⟨hv1, hv2, hr2, hk2, hb2⟩ := hv.appended (by decide) hrow hB.size (Nat.le_refl _) hown' hgrow; have hc1 := hv1.cell; have hf1 := hv1.frozen))
    exact ⟨hk2.from _, walks_of hk2, ⟨⟨_, hv2, by simpa [Hd.flatL_append, Hd.flatL_one] using hr2⟩, hB.trans hb2⟩⟩
  case done =>
    rintro D ys W hD hperm ⟨⟨v, hv, hrow, _⟩, hB⟩ hK
    have hc := hv.cell
    gi_wp2
    refine ⟨by simp, .inl ⟨_, _, rfl, run_takeDeferred hK, ?_⟩⟩
    exact ⟨_, results_tmp rfl _ _ _, v, ys, rfl, hperm, ownsRow_putObj hrow _ hK rfl, hB.trans (belowK_b (w := w) (Nat.le_refl _) W D _ _ (by omega) hK rfl rfl)⟩
  case stop =>
    rintro D c pre W _ _ h _
    exact h.elim
theorem appendSeq_any (Bm m : Nat) (ls : List Hd.L) (w : World) (hBm : Bm < w.heap.size) (hm : w.cell? ⟨Bm, 0, none⟩ = some (.map (some m))) (hown : Mp.MapS Tryz.prog 35 w m (ls.map Hd.entL)) (hl : ls.length ≤ 100000) :
    Calls Tryz.prog 80 #[.slice none 0 0, .func (.func 57) #[] #[.pointer (some ⟨Bm, 0, none⟩)]] w fun e w' => ∃ v ls', e = .returned v ∧ ls'.Perm ls ∧ Hd.OwnL w' w.heap.size v ls' ∧ Below w.heap.size w w' :=
  callsIn_wide.1 (appendSeq_in Fence.wide 5 trivial trivial rfl (by omega) Bm m ls w hBm hm hown hl)
end Go.Proofs.YtfodabbmjggieaaGreat
