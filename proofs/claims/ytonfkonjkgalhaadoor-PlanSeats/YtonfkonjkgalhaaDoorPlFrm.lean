/- What every law's proof opens its arguments by: seats, plans, lists of them. -/
import Derived.Test.YtonfkonjkgalhaaDoorPlMap
import Derived.Test.YtonfkonjkgalhaaDoorPlBits
import Derived.Test.YtonfkonjkgalhaaDoorCards
import Derived.Test.YtonfkonjkgalhaaDoorTie
import Derived.ProofKit
import Derived.OpenShut
import Derived.ShutString
import Derived.ChangeOld
import Derived.Deep.Draws
import Derived.Deep.SlicePairs
import Derived.Deep.DeepHandedRow
namespace Go.Proofs.YtonfkonjkgalhaaDoor
open Go.ChangeShapes Go.WideShapes Go.ChangeAt Go.RowKit
set_option linter.unusedVariables false

theorem own : ownKnob Tryd.prog.godebug = none := by kernel_rfl

namespace Pl
section
variable {H : Type} {enc : TypeId × Value → H} {W : World}
theorem trod_ints {fuel : Nat} {cs : List Value} {x : DataW H × List MemPlace} (hf : DataW.trod enc Tryd.prog W 0 (fun _ => true) true fuel 29 cs = some x) :
    ∃ A zs cap, cs = [.slice A zs.length cap] ∧ Ints W W.heap.size A zs ∧ zs.length ≤ 9223372036854775807 ∧ zs.length ≤ cap ∧ (∀ n ∈ zs, (Lit.int .i64 n).wf = true) ∧ (A = none → cap = 0) := by
  rcases open_ints Tryd.underlying29 Tryd.underlying3 (by kernel_rfl) hf with ⟨hcs, _⟩ | ⟨x, len, cap, zs, hcs, _, hl, hm, hz, _, hcell, hwz⟩
  · exact ⟨none, [], 0, by simpa using hcs, fun h => absurd h (by decide), by simp, by simp, by simp, fun _ => rfl⟩
  · have hz' : zs.length = cap := by simpa using hz
    have hlen : (zs.take len).length = len := by rw [List.length_take]; omega
    unfold maxLen at hm
    refine ⟨some x, zs.take len, cap, by rw [hlen]; exact hcs, fun h0 => ?_, by omega, by omega, fun n hn => hwz n (List.mem_of_mem_take hn), fun h => by cases h⟩
    rw [hlen] at h0
    obtain ⟨b, off, spot⟩ := x
    have hc0 := hcell 0 (by omega)
    have hspot : spot = none := by simpa [Addr.add] using World.cell?_spot hc0
    subst hspot
    refine ⟨b, off, rfl, ?_, fun j hj => ?_⟩
    · have := block_lt_of_cell hc0
      rwa [add_plain] at this
    · rw [hlen] at hj
      have hcj := hcell j (by omega)
      rw [add_plain] at hcj
      rw [hcj]
      have hj' : j < zs.length := by omega
      simp [gI, hj', hj, List.getElem?_take_of_lt, List.getD_eq_getElem?_getD]
theorem trod_u64s {fuel : Nat} {cs : List Value} {x : DataW H × List MemPlace} (hf : DataW.trod enc Tryd.prog W 0 (fun _ => true) true fuel 49 cs = some x) :
    ∃ A l cap, cs = [.slice A l.length cap] ∧ Nums W W.heap.size A l ∧ l.length ≤ 9223372036854775807 ∧ l.length ≤ cap ∧ (∀ j, gN l j < 18446744073709551616) ∧ (A = none → cap = 0) := by
  rcases open_ints Tryd.underlying49 Tryd.underlying63 (by kernel_rfl) hf with ⟨hcs, _⟩ | ⟨x, len, cap, zs, hcs, _, hl, hm, hz, _, hcell, hwz⟩
  · exact ⟨none, [], 0, by simpa using hcs, fun h => absurd h (by decide), by simp, by simp, fun j => by simp [gN], fun _ => rfl⟩
  · have hz' : zs.length = cap := by simpa using hz
    have hlen : ((zs.take len).map Int.toNat).length = len := by rw [List.length_map, List.length_take]; omega
    unfold maxLen at hm
    refine ⟨some x, (zs.take len).map Int.toNat, cap, by rw [hlen]; exact hcs, fun h0 => ?_, by omega, by omega, fun j => ?_, fun h => by cases h⟩
    · rw [hlen] at h0
      obtain ⟨b, off, spot⟩ := x
      have hc0 := hcell 0 (by omega)
      have hspot : spot = none := by simpa [Addr.add] using World.cell?_spot hc0
      subst hspot
      refine ⟨b, off, rfl, ?_, fun j hj => ?_⟩
      · have := block_lt_of_cell hc0
        rwa [add_plain] at this
      · rw [hlen] at hj
        have hcj := hcell j (by omega)
        rw [add_plain] at hcj
        rw [hcj]
        have hj' : j < zs.length := by omega
        obtain ⟨b0, b1⟩ := bounds_u64 (hwz zs[j] (List.getElem_mem hj'))
        simp [gN, hj', hj, List.getElem?_take_of_lt, List.getD_eq_getElem?_getD]
        omega
    · unfold gN
      rw [List.getD_eq_getElem?_getD]
      by_cases hj : j < len
      · have hj' : j < zs.length := by omega
        obtain ⟨b0, b1⟩ := bounds_u64 (hwz zs[j] (List.getElem_mem hj'))
        simp [hj', hj, List.getElem?_take_of_lt]
        omega
      · rw [List.getElem?_eq_none (by omega)]
        simp
theorem seat_fields : ∃ f0 f1, Tryd.prog.underlying 23 = some (.struct #[f0, f1]) ∧ f0.offset = 0 ∧ f1.offset = 1 ∧ f0.type = 3 ∧ f1.type = 5 := by
  obtain ⟨fs, hu, _, hf⟩ := fieldsKey
  obtain ⟨l⟩ := fs
  simp only at hf
  match l, hf with
  | [f0, f1], hf =>
    simp at hf
    exact ⟨f0, f1, hu, hf.1.2, hf.2.2, hf.1.1, hf.2.1⟩
  | [], hf => simp at hf
  | [_], hf => simp at hf
  | _ :: _ :: _ :: _, hf => simp at hf
theorem trod_seats {fuel : Nat} {cs : List Value} {x : DataW H × List MemPlace} (hf : DataW.trod enc Tryd.prog W 0 (fun _ => true) true fuel 30 cs = some x) :
    ∃ A l cap, cs = [.slice A l.length cap] ∧ Sts W W.heap.size A l ∧ l.length ≤ 9223372036854775807 ∧ l.length ≤ cap ∧ (∀ s ∈ l, WS s) ∧ (A = none → cap = 0) := by
  obtain ⟨f0, f1, hu, o0, o1, t0, t1⟩ := seat_fields
  rcases Deep.open_slice_pairs Tryd.underlying30 hu cellsKey o0 o1 (by rw [t0]; exact cells1.1) (by rw [t1]; exact cells1.2) hf with ⟨hcs, _⟩ | ⟨x, len, cap, m, n, V0, V1, D0, D1, P0, P1, hcs, _, hl, hm, hmm, _, hx⟩
  · exact ⟨none, [], 0, by simpa using hcs, fun h => absurd h (by decide), by simp, by simp, by simp, fun _ => rfl⟩
  · have hmc : m = cap := by simpa using hmm
    unfold maxLen at hm
    have each : ∀ i, i < m → ∃ a b : Int, V0 i = .int .i64 a ∧ V1 i = .int .u8 b ∧ WS (a, b) := fun i hi => by
      obtain ⟨_, _, h3, h4⟩ := hx i hi
      rw [t0] at h3
      rw [t1] at h4
      obtain ⟨a, e1, _, w1⟩ := DataW.trod_int Tryd.underlying3 h3
      obtain ⟨b, e2, _, w2⟩ := DataW.trod_int Tryd.underlying5 h4
      simp only [List.cons.injEq, and_true] at e1 e2
      obtain ⟨a0, a1⟩ := bounds_i64 w1
      obtain ⟨b0, b1⟩ := bounds_u8 w2
      exact ⟨a, b, e1, e2, by show _ ≤ a; omega, by show a ≤ _; omega, b0, by show b ≤ _; omega⟩
    obtain ⟨F, hF⟩ : ∃ F : Nat → S, ∀ i, i < m → V0 i = .int .i64 (F i).1 ∧ V1 i = .int .u8 (F i).2 ∧ WS (F i) := by
      refine ⟨fun i => if h : i < m then (Classical.choose (each i h), Classical.choose (Classical.choose_spec (each i h))) else (0, 0), fun i hi => ?_⟩
      simp only [dif_pos hi]
      exact Classical.choose_spec (Classical.choose_spec (each i hi))
    have hlen : ((List.range len).map F).length = len := by simp
    refine ⟨some x, (List.range len).map F, cap, by rw [hlen]; exact hcs, fun h0 => ?_, by omega, by omega, fun s hs => ?_, fun h => by cases h⟩
    · rw [hlen] at h0
      obtain ⟨b, off, spot⟩ := x
      have hc0 := (hx 0 (by omega)).1
      have hspot : spot = none := by simpa [Addr.add] using World.cell?_spot hc0
      subst hspot
      refine ⟨b, off, rfl, ?_, fun j hj => ?_⟩
      · have := block_lt_of_cell hc0
        rwa [add_plain] at this
      · rw [hlen] at hj
        obtain ⟨h1, h2, _, _⟩ := hx j (by omega)
        rw [add_plain] at h1 h2
        obtain ⟨e1, e2, _⟩ := hF j (by omega)
        rw [e1] at h1
        rw [e2] at h2
        have g : ((List.range len).map F).getD j (0, 0) = F j := by simp [hj, List.getD_eq_getElem?_getD]
        unfold gR gC
        rw [g]
        exact ⟨h1, by rw [Nat.add_assoc]; exact h2⟩
    · obtain ⟨i, hi, rfl⟩ := List.mem_map.1 hs
      rw [List.mem_range] at hi
      exact (hF i (by omega)).2.2
theorem open_seat {r : Reach} {b0 : Nat} {v : Value} {d : DataW H} {p : List MemPlace} (hv : Value.okWide Tryd.prog W r b0 23 v) (h : DataW.Trod enc Tryd.prog W 0 (fun _ => true) true 23 v d p) :
    ∃ s : S, v = sv s ∧ WS s := by
  obtain ⟨f0, f1, hu, o0, o1, t0, t1⟩ := seat_fields
  obtain ⟨cs, rfl, hsz0⟩ := okWide_struct hu hv
  obtain ⟨l⟩ := cs
  have h7 := hsz0.trans cellsKey
  simp only [List.size_toArray] at h7
  match l, h7 with
  | [v0, v1], _ =>
    obtain ⟨fuel, h2⟩ := h
    obtain ⟨y0, y1, n, _, _, k0, k1⟩ := trod_struct2 hu h2
    rw [o0, t0, cells1.1] at k0
    rw [o1, t1, cells1.2] at k1
    simp only [Value.cells, List.drop_zero, List.drop_succ_cons, List.take_succ_cons, List.take_zero] at k0 k1
    obtain ⟨z0, e0, _, q0⟩ := DataW.trod_int Tryd.underlying3 k0
    obtain ⟨z1, e1, _, q1⟩ := DataW.trod_int Tryd.underlying5 k1
    simp only [List.cons.injEq, and_true] at e0 e1
    subst e0 e1
    obtain ⟨a0, a1⟩ := bounds_i64 q0
    obtain ⟨b0, b1⟩ := bounds_u8 q1
    exact ⟨(z0, z1), rfl, by show _ ≤ z0; omega, by show z0 ≤ _; omega, b0, by show z1 ≤ _; omega⟩
end
end Pl
namespace Pl
section
variable {H : Type} {enc : TypeId × Value → H} {W : World}
theorem fields_plan : (match Tryd.prog.underlying 32 with | some (.struct fs) => some (fs.toList.map fun f => (f.offset, f.type)) | _ => none) = some [(0, 3), (1, 3), (2, 9), (3, 29), (4, 30)] := by kernel_rfl
theorem cells_plan : Tryd.prog.cellsOf 32 = 5 := by kernel_rfl
structure PlanIn (w : World) (r : R) : Prop where
  wf : Wf r
  e : Ints w w.heap.size r.eA r.p.ex
  b : Sts w w.heap.size r.bA r.p.bl
  we : ∀ n ∈ r.p.ex, (Lit.int .i64 n).wf = true
  wb : ∀ s ∈ r.p.bl, WS s
  ne : r.eA = none → r.ec = 0
  nb : r.bA = none → r.bc = 0
set_option maxRecDepth 20000 in
theorem open_plan {r : Reach} {b0 : Nat} {v : Value} {d : DataW H} {p : List MemPlace} (hv : Value.okWide Tryd.prog W r b0 32 v) (h : DataW.Trod enc Tryd.prog W 0 (fun _ => true) true 32 v d p) :
    ∃ x : R, v = pv x ∧ PlanIn W x := by
  obtain ⟨fs, hu⟩ : ∃ fs, Tryd.prog.underlying 32 = some (.struct fs) := by
    have := fields_plan
    cases hq : Tryd.prog.underlying 32 with
    | none => rw [hq] at this; cases this
    | some d => cases d <;> first | exact ⟨_, rfl⟩ | (rw [hq] at this; cases this)
  have hfs := fields_plan
  rw [hu] at hfs
  simp only [Option.some.injEq] at hfs
  have hfield : ∀ (i o ty : Nat), ([(0, 3), (1, 3), (2, 9), (3, 29), (4, 30)] : List (Nat × Nat))[i]? = some (o, ty) → ∃ f, fs[i]? = some f ∧ f.offset = o ∧ f.type = ty := fun i o ty h => by
    rw [← hfs, List.getElem?_map] at h
    obtain ⟨f, h1, h2⟩ := Option.map_eq_some_iff.1 h
    exact ⟨f, by simpa using h1, by injection h2, by injection h2⟩
  obtain ⟨cs, rfl, hsz0⟩ := okWide_struct hu hv
  obtain ⟨l⟩ := cs
  have h7 := hsz0.trans cells_plan
  simp only [List.size_toArray] at h7
  match l, h7 with
  | [v0, v1, v2, v3, v4], _ =>
    obtain ⟨fuel, h2⟩ := h
    obtain ⟨xs, n', _, _, _, hxl, hff⟩ := DataW.trod_struct hu h2
    obtain ⟨f0, e0, o0, t0⟩ := hfield 0 0 3 rfl
    obtain ⟨f1, e1, o1, t1⟩ := hfield 1 1 3 rfl
    obtain ⟨f2, e2, o2, t2⟩ := hfield 2 2 9 rfl
    obtain ⟨f3, e3, o3, t3⟩ := hfield 3 3 29 rfl
    obtain ⟨f4, e4, o4, t4⟩ := hfield 4 4 30 rfl
    have hsz : xs.length = 5 := by
      rw [hxl]
      have := congrArg List.length hfs
      simpa using this
    have k0 := hff 0 f0 e0
    have k1 := hff 1 f1 e1
    have k2 := hff 2 f2 e2
    have k3 := hff 3 f3 e3
    have k4 := hff 4 f4 e4
    rw [o0, t0, show Tryd.prog.cellsOf 3 = 1 by kernel_rfl, List.getElem?_eq_getElem (by omega)] at k0
    rw [o1, t1, show Tryd.prog.cellsOf 3 = 1 by kernel_rfl, List.getElem?_eq_getElem (by omega)] at k1
    rw [o2, t2, show Tryd.prog.cellsOf 9 = 1 by kernel_rfl, List.getElem?_eq_getElem (by omega)] at k2
    rw [o3, t3, show Tryd.prog.cellsOf 29 = 1 by kernel_rfl, List.getElem?_eq_getElem (by omega)] at k3
    rw [o4, t4, show Tryd.prog.cellsOf 30 = 1 by kernel_rfl, List.getElem?_eq_getElem (by omega)] at k4
    simp only [Value.cells, List.drop_zero, List.drop_succ_cons, List.take_succ_cons, List.take_zero] at k0 k1 k2 k3 k4
    obtain ⟨z0, y0, _, q0⟩ := DataW.trod_int Tryd.underlying3 k0
    obtain ⟨z1, y1, _, q1⟩ := DataW.trod_int Tryd.underlying3 k1
    obtain ⟨z2, y2, _, q2⟩ := DataW.trod_string Tryd.underlying9 k2
    obtain ⟨A3, l3, c3, y3, b3, q3, d3, w3, n3⟩ := trod_ints k3
    obtain ⟨A4, l4, c4, y4, b4, q4, d4, w4, n4⟩ := trod_seats k4
    simp only [List.cons.injEq, and_true] at y0 y1 y2 y3 y4
    subst y0 y1 y2 y3 y4
    obtain ⟨a0, a1⟩ := bounds_i64 q0
    obtain ⟨a2, a3⟩ := bounds_i64 q1
    exact ⟨⟨⟨z0, z1, z2, l3, l4⟩, A3, c3, A4, c4⟩, rfl, ⟨⟨by unfold maxLen at q2; exact q2, a0, by show z0 ≤ _; omega, a2, by show z1 ≤ _; omega, q3, q4, d3, d4, fun s hs => ⟨(w4 s hs).2.2.1, (w4 s hs).2.2.2⟩⟩, b3, b4, w3, w4, n3, n4⟩⟩
end
end Pl
def setTab (h : Array Obj) (i : Nat) (cs : Array Value) : Array Obj := h.modify i fun
  | .cells _ t frozen => .cells cs t frozen
  | o => o
/-- A world for the witnesses: the settled one, the listed tables (blocks 0, 2, 3) holding what their initialisers lay. -/
noncomputable def laidWorld (os : Os) : World :=
  { World.holding Tryd.prog os ⟨#[], #[], []⟩ with heap := setTab (setTab (setTab (World.holding Tryd.prog os ⟨#[], #[], []⟩).heap 0 #[.int .u64 1, .int .u64 10, .int .u64 100, .int .u64 1000, .int .u64 10000, .int .u64 100000, .int .u64 1000000, .int .u64 10000000, .int .u64 100000000, .int .u64 1000000000, .int .u64 10000000000, .int .u64 100000000000, .int .u64 1000000000000, .int .u64 10000000000000, .int .u64 100000000000000, .int .u64 1000000000000000, .int .u64 10000000000000000, .int .u64 100000000000000000, .int .u64 1000000000000000000, .int .u64 10000000000000000000]) 2 #[.int .u8 0, .int .u8 1, .int .u8 28, .int .u8 2, .int .u8 29, .int .u8 14, .int .u8 24, .int .u8 3, .int .u8 30, .int .u8 22, .int .u8 20, .int .u8 15, .int .u8 25, .int .u8 17, .int .u8 4, .int .u8 8, .int .u8 31, .int .u8 27, .int .u8 13, .int .u8 23, .int .u8 21, .int .u8 19, .int .u8 16, .int .u8 7, .int .u8 26, .int .u8 12, .int .u8 18, .int .u8 6, .int .u8 11, .int .u8 5, .int .u8 10, .int .u8 9]) 3 #[.int .u8 0, .int .u8 1, .int .u8 56, .int .u8 2, .int .u8 57, .int .u8 49, .int .u8 28, .int .u8 3, .int .u8 61, .int .u8 58, .int .u8 42, .int .u8 50, .int .u8 38, .int .u8 29, .int .u8 17, .int .u8 4, .int .u8 62, .int .u8 47, .int .u8 59, .int .u8 36, .int .u8 45, .int .u8 43, .int .u8 51, .int .u8 22, .int .u8 53, .int .u8 39, .int .u8 33, .int .u8 30, .int .u8 24, .int .u8 18, .int .u8 12, .int .u8 5, .int .u8 63, .int .u8 55, .int .u8 48, .int .u8 27, .int .u8 60, .int .u8 41, .int .u8 37, .int .u8 16, .int .u8 46, .int .u8 35, .int .u8 44, .int .u8 21, .int .u8 52, .int .u8 32, .int .u8 23, .int .u8 11, .int .u8 54, .int .u8 26, .int .u8 40, .int .u8 15, .int .u8 34, .int .u8 20, .int .u8 31, .int .u8 10, .int .u8 25, .int .u8 14, .int .u8 19, .int .u8 9, .int .u8 13, .int .u8 8, .int .u8 7, .int .u8 6] }
end Go.Proofs.YtonfkonjkgalhaaDoor
