/- An act by value; contract of the laws' list. -/
import Derived.Test.YtogkaoiiddhdbaaFst
namespace Go.Proofs.Ytogkaoiiddhdbaa
open Go.RowKit
set_option linter.unusedVariables false

namespace Wl
open Dk (ActD)
def av (x : ActD) (Ad Ak : Option Addr) (cd ck : Nat) : Value := .agg #[.int .i64 x.kind, .int .i64 x.i, .int .i64 x.n, .int .i64 x.size, .slice Ad x.data.length cd, .slice Ak x.keep.length ck, .int .u8 x.mask]
def ac (x : ActD) (Ad Ak : Option Addr) (cd ck : Nat) : List Value := [.int .i64 x.kind, .int .i64 x.i, .int .i64 x.n, .int .i64 x.size, .slice Ad x.data.length cd, .slice Ak x.keep.length ck, .int .u8 x.mask]
/-- Block g is the act x. -/
def AB (w : World) (g : Nat) (x : ActD) (Ad Ak : Option Addr) (cd ck : Nat) : Prop := w.heap[g]? = some (.cells (ac x Ad Ak cd ck).toArray 43 (0, 0))
section
variable {w w' : World} {g : Nat} {x : ActD} {Ad Ak : Option Addr} {cd ck : Nat}
theorem AB.cell (h : AB w g x Ad Ak cd ck) (j : Nat) : w.cell? ⟨g, j, none⟩ = (ac x Ad Ak cd ck)[j]? := by
  rw [cell_of_row w g j _ _ _ h]; simp
theorem AB.c0 (h : AB w g x Ad Ak cd ck) : w.cell? ⟨g, 0, none⟩ = some (.int .i64 x.kind) := h.cell 0
theorem AB.c2 (h : AB w g x Ad Ak cd ck) : w.cell? ⟨g, 2, none⟩ = some (.int .i64 x.n) := h.cell 2
theorem AB.c3 (h : AB w g x Ad Ak cd ck) : w.cell? ⟨g, 3, none⟩ = some (.int .i64 x.size) := h.cell 3
theorem AB.c4 (h : AB w g x Ad Ak cd ck) : w.cell? ⟨g, 4, none⟩ = some (.slice Ad x.data.length cd) := h.cell 4
theorem AB.c5 (h : AB w g x Ad Ak cd ck) : w.cell? ⟨g, 5, none⟩ = some (.slice Ak x.keep.length ck) := h.cell 5
theorem AB.lt (h : AB w g x Ad Ak cd ck) : g < w.heap.size := Dk.lt_of_some h
theorem AB.kept (h : AB w g x Ad Ak cd ck) (e : w'.heap[g]? = w.heap[g]?) : AB w' g x Ad Ak cd ck := e.trans h
end
section
variable {w : World} {ops : Array Oper} {rest : List Oper} {o : Oper} {a : Act} {Q : Exit → Act → World → Prop}
theorem wpList_boxA (hg : o.guard = none) (y : Operand) (hop : o.op = Op.box 43 y) (x : ActD) (Ad Ak : Option Addr) (cd ck : Nat) (hx : a.eval y = av x Ad Ak cd ck)
    (hK : ∀ w', AB w' w.heap.size x Ad Ak cd ck → Below w.heap.size w w' → w'.heap.size = w.heap.size + 1 → wpList Try.prog ops Q rest (a.put o.dst (.pointer (some ⟨w.heap.size, 0, none⟩))) w') : wpList Try.prog ops Q (o :: rest) a w := by
  refine wpList_plain hg fun K hK' => ?_
  have hr : (Instr.box 43 (av x Ad Ak cd ck)).run Try.prog w = .ok (.pointer (some ⟨w.heap.size, 0, none⟩)) (w.alloc (.cells (ac x Ad Ak cd ck).toArray 43)) := by
    simp [Instr.box, newVar, newRow, av, ac, Value.cells, go_sem]
  unfold Oper.wp
  simp [execOp, hop, hx, hr, Result.andThen]
  exact hK' _ _ (hK _ (heap_alloc_new w _) ((Below.refl _ _).alloc (Nat.le_refl _) _) (by simp))
end
def listL (x : ActD) : List (List UInt8) := (x.data.take 12).map fun b => recL [b] x.size
theorem length_listL (x : ActD) : (listL x).length = min 12 x.data.length := by rw [listL, List.length_map, List.length_take]
theorem take_listL (x : ActD) (k : Nat) (hk : k < x.data.length) (h12 : k < 12) : (listL x).take k ++ [recL ((x.data.drop k).take 1) x.size] = (listL x).take (k + 1) := by
  have hl : k < (listL x).length := by rw [length_listL]; omega
  rw [List.take_succ_eq_append_getElem hl]
  congr 2
  simp only [listL, List.getElem_map, List.getElem_take]
  rw [List.drop_eq_getElem_cons hk, List.take_succ_cons, List.take_zero]
theorem mem_listL (x : ActD) : ∀ r ∈ listL x, r.length ≤ 10000 := fun r hr => by
  obtain ⟨b, _, rfl⟩ := List.mem_map.1 hr
  rw [length_recL]; exact clampR_le _
/-- The call answered new rows. -/
def NewA (w : World) (ps : List (List UInt8)) (e : Ending) (w' : World) : Prop := ∃ A' c', e = .returned (.slice A' ps.length c') ∧ Hid (RwsR w' (fun k => w.heap.size ≤ k ∧ k < w'.heap.size) (.slice A' ps.length c') ps) ∧ Below w.heap.size w w'
end Wl
theorem record_drew (A : Option Addr) (l : List UInt8) (c n : Nat) (x : Int) (w : World) (G : Nat → Prop) (h : Dk.Bts w G A l) (hl : l.length ≤ 9223372036854775807) (hn : n = l.length) :
    Calls Try.prog 17 #[.slice A n c, .int .i64 x] w.drew fun e w' => e = .returned (.slice (some ⟨w.heap.size, 0, none⟩) (Wl.clampR x) (Wl.clampR x)) ∧ Hid (Dk.Row w' w.heap.size 5 (Wl.recL l x)) ∧ Below w.heap.size w w' :=
  (record_any A l c n x w.drew G (h.kept (fun _ _ => rfl)) hl hn).mono fun e w' ⟨h1, h2, h3⟩ => ⟨h1, h2, (Below.refl _ w).drew.trans h3⟩
set_option maxRecDepth 4000 in
set_option maxHeartbeats 1000000 in
theorem list_any (w : World) (x : Dk.ActD) (Ad Ak : Option Addr) (cd ck : Nat) (G : Nat → Prop) (hd : Dk.Bts w G Ad x.data) (hdc : x.data.length ≤ cd) (hld : x.data.length ≤ 9223372036854775807) :
    Calls Try.prog 20 #[Wl.av x Ad Ak cd ck] w fun e w' => Wl.NewA w (Wl.listL x) e w' := by
  have H := Lib.hid hd.lt
  have HLL := Lib.hid (Wl.length_listL x)
  clear hd
  go_enter Try.func20, Try.ntmps20
  go_wp2_with (refine Wl.wpList_boxA rfl _ rfl x Ad Ak cd ck rfl ?_; intro w1 ha1 hb1 hs1)
  have HA := Lib.hid ha1
  clear ha1
  generalize hN : x.data.length = N at *
  go_loopw [3, 4] (fun v i wr => ∃ (k : Nat) (A' : Option Addr) (c' : Nat), k ≤ N ∧ k ≤ 12 ∧ i = .int .i64 k ∧ v = .slice A' k c' ∧ Hid (Wl.RwsR wr (fun j => w1.heap.size ≤ j ∧ j < wr.heap.size) (.slice A' k c') ((Wl.listL x).take k)) ∧ Below w1.heap.size w1 wr) (fun _ i _ => N - (intOf i).toNat)
  case atStart => exact ⟨0, none, 0, by omega, by omega, rfl, rfl, Wl.RwsR.nil _ _, Below.refl _ _⟩
  case round =>
    obtain ⟨k, A1, c1, hk, hk12, rfl, rfl, HR, hbk⟩ := hrel
    have hs0 := hbk.size
    have HAk := Lib.hid (HA.out.kept (hbk.block _ (by omega)))
    have hc3 := HAk.out.c3
    have hc4 := HAk.out.c4
    rw [hN] at hc4
    by_cases hlt : k < N
    · by_cases h12 : k < 12
      · have hB0 := H.out.kept (w' := wr) (fun j hj => (hbk.block j (by have := hj.2; omega)).trans (hb1.block j hj.2))
        obtain ⟨b, off, rfl, _⟩ := id (hB0 (by omega))
        have HB := Lib.hid (Wl.btsSub hB0 k 1)
        have hL := Lib.hid (Wl.take_listL x k (by omega) h12)
        have hl1 : Hid (((x.data.drop k).take 1).length = 1) := show _ = _ by rw [List.length_take, List.length_drop]; omega
        have hln : Hid (((Wl.listL x).take k).length = k) := show _ = _ by rw [List.length_take, HLL.out]; omega
        have hln1 : Hid (((Wl.listL x).take (k + 1)).length = k + 1) := show _ = _ by rw [List.length_take, HLL.out]; omega
        have HCL := Lib.hid (Wl.length_recL ((x.data.drop k).take 1) x.size)
        clear hB0
        generalize (x.data.drop k).take 1 = l at *
        generalize hsz : x.size = s at *
        have HST : Hid (∀ (w2 w5 : World) (v : Value) (V : Value) (L : List (List UInt8)), Below wr.heap.size wr w2 → Dk.Fr (fun j => w1.heap.size ≤ j ∧ j < wr.heap.size) (w2.alloc (.cells #[v] 40)) w5 → Wl.RwsR w5 (fun j => (w1.heap.size ≤ j ∧ j < wr.heap.size) ∨ wr.heap.size ≤ j ∧ j < w5.heap.size) V L → Hid (Wl.RwsR w5 (fun j => w1.heap.size ≤ j ∧ j < w5.heap.size) V L) ∧ Below w1.heap.size w1 w5) := fun w2 w5 v V L hb2 hf5 h => by
          have f1 : Dk.Fr (fun j => w1.heap.size ≤ j ∧ j < wr.heap.size) wr w5 := ((Dk.Fr.of_below hb2).trans (Dk.Fr.alloc _ w2 _) (fun _ _ h => h)).trans hf5 (fun _ _ h => h)
          have hz := f1.size
          refine ⟨h.mono (fun j hj => ?_), hbk.trans (f1.below hs0 (fun j hj => hj.1))⟩
          rcases hj with hj | hj <;> omega
        have hw1 : IntKind.i64.wrap ((k : Int) + 1) = (k : Int) + 1 := by
          unfold IntKind.wrap
          simp [IntKind.signed, IntKind.bits]
          omega
        have hw2 : (0 : Int) ≤ (k : Int) + 1 := by omega
        have hw3 : (k : Int) + 1 ≤ (cd : Int) := by omega
        have hw4 : ((k : Int) + 1).toNat = k + 1 := by omega
        have hw5 : k + 1 - k = 1 := by omega
        have hw6 : ¬ cd = k := by omega
        have hc3' : wr.drew.cell? ⟨w.heap.size, 3, none⟩ = some (.int .i64 s) := hc3
        have hc4' : wr.drew.cell? ⟨w.heap.size, 4, none⟩ = some (.slice (some ⟨b, off, none⟩) N cd) := hc4
        go_wp2
        go_region_law (first
          | (go_loud (refine Wl.wp_appendR (.tmp 16) (.tmp 26) rfl (fun j => w1.heap.size ≤ j ∧ j < wr.heap.size) (.slice A1 k c1) ((Wl.listL x).take k) (HR.out.kept (fun j hj => hb2.block j hj.2)) rfl wr.heap.size (fun j hj => hj.2) hb2.size (some ⟨wr.heap.size, 0, none⟩) (Wl.recL l s) (Wl.clampR s) (Wl.clampR s) w2.heap.size (Wl.Bts.mono HR2.out.bts (fun j hj => Nat.le_of_eq hj.symm)) HCL.out.symm (by simp) (by rw [HCL.out]; exact Nat.le_refl _) rfl rfl (by rw [hln.out]; omega) ?_; intro v5 w5 hr5 hf5; rw [hL.out] at hr5; obtain ⟨A5, c5, e5⟩ := hr5.form; rw [hln1.out] at e5; subst e5; have HR5 := Lib.hid hr5; clear hr5))
          | (go_simp; go_at_call 17; go_loud (refine (record_drew (some ⟨b, off + k, none⟩) l _ 1 s wr _ HB.out (by rw [hl1.out]; decide) hl1.out.symm).mono ?_; rintro e w2 ⟨rfl, HR2, hb2⟩)))
        all_goals go_wp2
        all_goals go_roundw
        all_goals first
          | exact ⟨k + 1, A5, c5, by omega, by omega, by go_num, rfl, HST.out w2 w5 _ _ _ hb2 hf5 HR5.out⟩
          | (simp [intOf]; omega)
      · have HT : Hid ((Wl.listL x).length = k) := show _ = _ by rw [HLL.out]; omega
        have hk2 : k = 12 := by omega
        subst hk2
        have HF : Hid (Wl.NewA w (Wl.listL x) (.returned (.slice A1 12 c1)) wr) := by
          have h1 := HR.out
          rw [List.take_of_length_le (by rw [HT.out]; omega)] at h1
          refine ⟨A1, c1, by rw [HT.out], by rw [HT.out]; exact h1.mono (fun j hj => ⟨by omega, hj.2⟩), hb1.trans (hbk.mono (by omega))⟩
        go_wp2
        go_ret
        exact HF.out
    · have HT : Hid ((Wl.listL x).length = k) := show _ = _ by rw [HLL.out]; omega
      have HF : Hid (Wl.NewA w (Wl.listL x) (.returned (.slice A1 k c1)) wr) := by
        have h1 := HR.out
        rw [List.take_of_length_le (by rw [HT.out]; omega)] at h1
        refine ⟨A1, c1, by rw [HT.out], by rw [HT.out]; exact h1.mono (fun j hj => ⟨by omega, hj.2⟩), hb1.trans (hbk.mono (by omega))⟩
      go_wp2
      go_ret
      exact HF.out
end Go.Proofs.Ytogkaoiiddhdbaa
