/- Contracts of the document's Sector, Read, next, joined, Cut, Fuse. -/
import Derived.Test.YtngpdjkeoodigaaRefA
namespace Go.Proofs.Ytngpdjkeoodigaa
open Go.RowKit

namespace Dk
theorem u30 : Try.prog.underlying 30 = some (((Try.prog.underlying 30).getD .bool)) := by kernel_rfl
theorem i30 : (Try.prog.info? 30).map (·.size) = some 6 := by kernel_rfl
def zero30 : List Value := [.int .i64 0, .slice none 0 0, .slice none 0 0, .bool false, .bool false, .int .i64 0]
theorem z30 (w : World) : (zeroValue 30).run Try.prog w = .ok (.agg zero30.toArray) w := by kernel_rfl
def rc (r : R) (sv wv : Value) : List Value := [.int .i64 r.n, sv, wv, .bool r.armed, .bool r.down, .int .i64 r.after]
/-- Block g is the document's disk r. -/
def RB (w : World) (g : Nat) (r : R) (sv wv : Value) : Prop := w.heap[g]? = some (.cells (rc r sv wv).toArray 30 (0, 0))
section
variable {w w' : World} {g : Nat} {r : R} {sv wv : Value}
theorem RB.cell (h : RB w g r sv wv) (j : Nat) : w.cell? ⟨g, j, none⟩ = (rc r sv wv)[j]? := by
  rw [cell_of_row w g j _ _ _ h]; simp
theorem RB.c0 (h : RB w g r sv wv) : w.cell? ⟨g, 0, none⟩ = some (.int .i64 r.n) := h.cell 0
theorem RB.c1 (h : RB w g r sv wv) : w.cell? ⟨g, 1, none⟩ = some sv := h.cell 1
theorem RB.c2 (h : RB w g r sv wv) : w.cell? ⟨g, 2, none⟩ = some wv := h.cell 2
theorem RB.c3 (h : RB w g r sv wv) : w.cell? ⟨g, 3, none⟩ = some (.bool r.armed) := h.cell 3
theorem RB.c4 (h : RB w g r sv wv) : w.cell? ⟨g, 4, none⟩ = some (.bool r.down) := h.cell 4
theorem RB.c5 (h : RB w g r sv wv) : w.cell? ⟨g, 5, none⟩ = some (.int .i64 r.after) := h.cell 5
theorem RB.free (h : RB w g r sv wv) (j : Nat) : w.frozen? ⟨g, j, none⟩ = false := frozen_row h j
theorem RB.lt (h : RB w g r sv wv) : g < w.heap.size := lt_of_some h
theorem RB.kept (h : RB w g r sv wv) (e : w'.heap[g]? = w.heap[g]?) : RB w' g r sv wv := e.trans h
theorem RB.range (h : RB w g r sv wv) : w.rangeAt g 0 (rc r sv wv) := rangeAt_whole h
theorem RB.set (h : RB w g r sv wv) (j : Nat) (u : Value) (r' : R) (sv' wv' : Value) (e : ((rc r sv wv).toArray).setIfInBounds j u = (rc r' sv' wv').toArray) : RB (w.setCell ⟨g, j, none⟩ u) g r' sv' wv' := by
  unfold RB
  rw [← e]
  exact set_row h j u
theorem RB.below (h : RB w g r sv wv) (hb : Below w.heap.size w w') : RB w' g r sv wv := h.kept (hb.block g h.lt)
end
/-- Both rows. -/
def RR (w : World) (r : R) (sv wv : Value) : Prop := RW w sv r.safe ∧ RW w wv r.wait ∧ r.safe.length + r.wait.length < 50000
theorem RR.below {w w' : World} {r : R} {sv wv : Value} (h : RR w r sv wv) (hb : Below w.heap.size w w') : RR w' r sv wv := ⟨h.1.below hb, h.2.1.below hb, h.2.2⟩
theorem one_rc {w : World} {r : R} {sv wv : Value} (h : RR w r sv wv) : ∀ u ∈ rc r sv wv, u.oneCell' = true := by
  intro u hu
  obtain ⟨A, cap, h1⟩ := h.1.shape
  obtain ⟨A', cap', h2⟩ := h.2.1.shape
  rw [h1, h2] at hu
  simp only [rc, List.mem_cons, List.not_mem_nil, or_false] at hu
  rcases hu with rfl | rfl | rfl | rfl | rfl | rfl <;> rfl
section
variable {w : World} {ops : Array Oper} {rest : List Oper} {o : Oper} {a : Act} {Q : Exit → Act → World → Prop}
/-- A parameter's own variable. -/
theorem wpList_box30 (hg : o.guard = none) (x : Operand) (hop : o.op = Op.box 30 x) (r : R) (sv wv : Value) (hx : a.eval x = rv r sv wv)
    (hK : ∀ w', RB w' w.heap.size r sv wv → Below w.heap.size w w' → w.heap.size < w'.heap.size → wpList Try.prog ops Q rest (a.put o.dst (.pointer (some ⟨w.heap.size, 0, none⟩))) w') : wpList Try.prog ops Q (o :: rest) a w := by
  refine wpList_plain hg fun K hK' => ?_
  have hr : (Instr.box 30 (rv r sv wv)).run Try.prog w = .ok (.pointer (some ⟨w.heap.size, 0, none⟩)) (w.alloc (.cells (rc r sv wv).toArray 30)) := by
    simp [Instr.box, newVar, newRow, rv, rc, Value.cells, go_sem]
  unfold Oper.wp
  simp [execOp, hop, hx, hr, Result.andThen]
  exact hK' _ _ (hK _ (heap_alloc_new w _) ((Below.refl _ _).alloc (Nat.le_refl _) _) (by simp))
theorem wpList_load30 (hg : o.guard = none) (x : Operand) (hop : o.op = Op.load 30 x) (g : Nat) (hx : a.eval x = .pointer (some ⟨g, 0, none⟩)) (r : R) (sv wv : Value) (h : RB w g r sv wv)
    (hK : wpList Try.prog ops Q rest (a.put o.dst (rv r sv wv)) w) : wpList Try.prog ops Q (o :: rest) a w :=
  wpList_load_mid hg 30 x hop g 0 hx (rc r sv wv) _ h.range u30 rfl i30 hK
theorem wpList_store30 (hg : o.guard = none) (x y : Operand) (hop : o.op = Op.store 30 x y) (g : Nat) (hx : a.eval x = .pointer (some ⟨g, 0, none⟩)) (r : R) (sv wv : Value) (hy : a.eval y = rv r sv wv) (cs : List Value) (hg2 : w.heap[g]? = some (.cells cs.toArray 30 (0, 0))) (hcs : cs.length = 6) (h : RR w r sv wv)
    (hK : ∀ w', RB w' g r sv wv → Fr (· = g) w w' → wpList Try.prog ops Q rest (a.put o.dst undef) w') : wpList Try.prog ops Q (o :: rest) a w :=
  wpList_store_whole hg 30 x y hop g hx (rc r sv wv) hy _ _ hg2 i30 (by rw [List.size_toArray, hcs]; rfl) (one_rc h) hK
end
theorem res_cell_tmp {fn : Func} {p u : Tmp} (h : fn.results = #[.cell p 30, .tmp u]) (tmps : Array Value) (w : World) (g : Nat) (r : R) (sv wv : Value) (hp : tmps.getD p undef = .pointer (some ⟨g, 0, none⟩)) (hr : RB w g r sv wv) :
    (results fn tmps).run Try.prog w = .ok (.tuple #[rv r sv wv, tmps.getD u undef]) w := by
  rw [results_cell_tmp h, hp]
  have hl := run_loadVar_mid (P := Try.prog) w g 0 30 (rc r sv wv) _ hr.range u30 rfl i30
  simp [asAddr, hl, Result.andThen, rv, rc]
theorem res_cell {fn : Func} {p : Tmp} (h : fn.results = #[.cell p 30]) (tmps : Array Value) (w : World) (g : Nat) (r : R) (sv wv : Value) (hp : tmps.getD p undef = .pointer (some ⟨g, 0, none⟩)) (hr : RB w g r sv wv) :
    (results fn tmps).run Try.prog w = .ok (rv r sv wv) w := by
  have hl := run_loadVar_mid (P := Try.prog) w g 0 30 (rc r sv wv) _ hr.range u30 rfl i30
  have hp' : tmps[p]?.getD undef = .pointer (some ⟨g, 0, none⟩) := by simpa using hp
  simp only [results, h]
  simp [hp', asAddr, hl, rv, rc]
end Dk
set_option maxHeartbeats 400000 in
theorem rsector (w : World) (r : Dk.R) (sv wv : Value) (i : Int) (h : Dk.RR w r sv wv) :
    Calls Try.prog 42 #[Dk.rv r sv wv, .int .i64 i] w fun e w' => e = .returned (Dk.str (Dk.rget r i)) ∧ Below w.heap.size w w' := by
  have H := Lib.hid h
  clear h
  unfold Dk.rget
  cases hw : Dk.lastW r.wait i with
  | some b =>
    have HW : Hid (Dk.lastV (Dk.lastW r.wait i) = .tuple #[.string ⟨b.toArray⟩, .bool true]) := by rw [hw]; rfl
    clear hw
    unfold Dk.str
    go_enter Try.func42, Try.ntmps42
    go_wp2_with (first
      | (refine Dk.wpList_box30 rfl _ rfl r sv wv rfl ?_; intro w1 hr1 hb1 hs1; have c2 := hr1.c2; have H1 := Lib.hid (H.out.below hb1))
      | (go_at_call 44; refine (rlast _ wv r.wait i H1.out.2.1 (by have := H1.out.2.2; omega)).mono ?_; rw [HW.out]; rintro e w2 ⟨rfl, rfl⟩))
    go_ret
    exact ⟨rfl, hb1⟩
  | none =>
    have HW : Hid (Dk.lastV (Dk.lastW r.wait i) = .tuple #[.string ⟨#[]⟩, .bool false]) := by rw [hw]; rfl
    clear hw
    cases hs : Dk.lastW r.safe i with
    | some b =>
      have HS : Hid (Dk.lastV (Dk.lastW r.safe i) = .tuple #[.string ⟨b.toArray⟩, .bool true]) := by rw [hs]; rfl
      clear hs
      unfold Dk.str
      go_enter Try.func42, Try.ntmps42
      go_wp2_with (first
        | (refine Dk.wpList_box30 rfl _ rfl r sv wv rfl ?_; intro w1 hr1 hb1 hs1; have c2 := hr1.c2; have c1 := hr1.c1; have H1 := Lib.hid (H.out.below hb1); have L1 := Lib.hid (rlast _ wv r.wait i H1.out.2.1 (by have := H1.out.2.2; omega)); have L2 := Lib.hid (rlast _ sv r.safe i H1.out.1 (by have := H1.out.2.2; omega)); rw [HW.out] at L1; rw [HS.out] at L2)
        | (go_at_call 44; refine L1.out.mono ?_; rintro e w2 ⟨rfl, rfl⟩; clear L1)
        | (go_at_call 44; refine L2.out.mono ?_; rintro e w2 ⟨rfl, rfl⟩))
      go_ret
      exact ⟨rfl, hb1⟩
    | none =>
      have HS : Hid (Dk.lastV (Dk.lastW r.safe i) = .tuple #[.string ⟨#[]⟩, .bool false]) := by rw [hs]; rfl
      clear hs
      unfold Dk.str
      go_enter Try.func42, Try.ntmps42
      go_wp2_with (first
        | (refine Dk.wpList_box30 rfl _ rfl r sv wv rfl ?_; intro w1 hr1 hb1 hs1; have c2 := hr1.c2; have c1 := hr1.c1; have H1 := Lib.hid (H.out.below hb1); have L1 := Lib.hid (rlast _ wv r.wait i H1.out.2.1 (by have := H1.out.2.2; omega)); have L2 := Lib.hid (rlast _ sv r.safe i H1.out.1 (by have := H1.out.2.2; omega)); rw [HW.out] at L1; rw [HS.out] at L2)
        | (go_at_call 44; refine L1.out.mono ?_; rintro e w2 ⟨rfl, rfl⟩; clear L1)
        | (go_at_call 44; refine L2.out.mono ?_; rintro e w2 ⟨rfl, rfl⟩)
        | (go_at_call 45; refine (rzeros _).mono ?_; rintro e w2 ⟨rfl, rfl⟩))
      go_ret
      exact ⟨rfl, hb1⟩
namespace Dk
def R.code (r : R) (i : Int) : Int := if ¬ (0 ≤ i ∧ i < r.n) then 1 else if r.down = true then 3 else 0
end Dk
theorem rread_no (w : World) (r : Dk.R) (sv wv : Value) (i : Int) (h : Dk.RR w r sv wv) (hc : ¬ (0 ≤ i ∧ i < r.n) ∨ r.down = true) :
    Calls Try.prog 32 #[Dk.rv r sv wv, .int .i64 i] w fun e w' => e = .returned (.tuple #[.string ⟨#[]⟩, .int .i64 (if 0 ≤ i ∧ i < r.n then 3 else 1)]) ∧ Below w.heap.size w w' := by
  have H := Lib.hid h
  clear h
  by_cases h0 : 0 ≤ i
  · by_cases h1 : i < r.n
    · have hd : r.down = true := hc.resolve_left (fun h => h ⟨h0, h1⟩)
      rw [if_pos ⟨h0, h1⟩]
      clear hc
      go_enter Try.func32, Try.ntmps32
      go_wp2_with (refine Dk.wpList_box30 rfl _ rfl r sv wv rfl ?_; intro w1 hr1 hb1 hs1; have c0 := hr1.c0; have c4 := hr1.c4; rw [hd] at c4)
      go_ret2
      exact ⟨rfl, hb1⟩
    · rw [if_neg (fun h => h1 h.2)]
      clear hc
      go_enter Try.func32, Try.ntmps32
      go_wp2_with (refine Dk.wpList_box30 rfl _ rfl r sv wv rfl ?_; intro w1 hr1 hb1 hs1; have c0 := hr1.c0; have c4 := hr1.c4)
      go_ret2
      exact ⟨rfl, hb1⟩
  · rw [if_neg (fun h => h0 h.1)]
    clear hc
    go_enter Try.func32, Try.ntmps32
    go_wp2_with (refine Dk.wpList_box30 rfl _ rfl r sv wv rfl ?_; intro w1 hr1 hb1 hs1; have c0 := hr1.c0; have c4 := hr1.c4)
    go_ret2
    exact ⟨rfl, hb1⟩
theorem rread_yes (w : World) (r : Dk.R) (sv wv : Value) (i : Int) (h : Dk.RR w r sv wv) (h0 : 0 ≤ i) (h1 : i < r.n) (hd : r.down = false) :
    Calls Try.prog 32 #[Dk.rv r sv wv, .int .i64 i] w fun e w' => e = .returned (.tuple #[Dk.str (Dk.rget r i), .int .i64 0]) ∧ Below w.heap.size w w' := by
  have H := Lib.hid h
  clear h
  go_enter Try.func32, Try.ntmps32
  go_wp2_with (first
    | (refine Dk.wpList_box30 rfl _ rfl r sv wv rfl ?_; intro w1 hr1 hb1 hs1; have c0 := hr1.c0; have c4 := hr1.c4; rw [hd] at c4; have H1 := Lib.hid (H.out.below hb1); have R1 := Lib.hid hr1)
    | (refine Dk.wpList_load30 rfl _ rfl w.heap.size rfl r sv wv R1.out ?_)
    | (go_at_call 42; refine (rsector _ r sv wv i H1.out).mono ?_; rintro e w2 ⟨rfl, hb2⟩))
  go_ret2
  exact ⟨rfl, hb1.trans (hb2.mono hb1.size)⟩
end Go.Proofs.Ytngpdjkeoodigaa
