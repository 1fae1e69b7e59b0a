/- What every law's proof opens its arguments by: flights, acts, legs. -/
import Derived.Test.YtfodabbmjggieaaGreatHdAwk
import Derived.ProofKit
import Derived.OpenShut
import Derived.ShutString
import Derived.ChangeOld
import Derived.Deep.Draws
import Derived.Deep.SlicePairs
import Derived.Deep.Grids
import Derived.Deep.Strs
import Derived.Deep.DeepHandedRow
namespace Go.Proofs.YtfodabbmjggieaaGreat
open Go.ChangeShapes Go.WideShapes Go.ChangeAt Go.RowKit
set_option linter.unusedVariables false

theorem own : ownKnob Tryz.prog.godebug = none := by kernel_rfl

namespace Pl
section
variable {H : Type} {enc : TypeId × Value → H} {W : World}
theorem trod_ints {fuel : Nat} {cs : List Value} {x : DataW H × List MemPlace} (hf : DataW.trod enc Tryz.prog W 0 (fun _ => true) true fuel 71 cs = some x) :
    ∃ A zs cap, cs = [.slice A zs.length cap] ∧ Ints W W.heap.size A zs ∧ zs.length ≤ 9223372036854775807 ∧ zs.length ≤ cap ∧ (∀ n ∈ zs, (Lit.int .i64 n).wf = true) ∧ (A = none → cap = 0) := by
  rcases open_ints Tryz.underlying71 Tryz.underlying3 (by kernel_rfl) hf with ⟨hcs, _⟩ | ⟨x, len, cap, zs, hcs, _, hl, hm, hz, _, hcell, hwz⟩
  · exact ⟨none, [], 0, by simpa using hcs, fun h => absurd h (by decide), by simp, by simp, by simp, fun _ => rfl⟩
  · have hz' : zs.length = cap := by simpa using hz
    have hlen : (zs.take len).length = len := by rw [List.length_take]; omega
    unfold maxLen at hm
    refine ⟨some x, zs.take len, cap, by rw [hlen]; exact hcs, fun h0 => ?_, by omega, by omega, fun n hn => hwz n (List.mem_of_mem_take hn), fun h => by cases h⟩
    rw [hlen] at h0
    obtain ⟨b, off, spot⟩ := x
    have hc0 := hcell 0 (by omega)
    have hspot : spot = none := by simpa [Addr.add] using World.cell?_spot hc0
    subst hspot
    refine ⟨b, off, rfl, ?_, fun j hj => ?_⟩
    · have := block_lt_of_cell hc0
      rwa [add_plain] at this
    · rw [hlen] at hj
      have hcj := hcell j (by omega)
      rw [add_plain] at hcj
      rw [hcj]
      have hj' : j < zs.length := by omega
      simp [gI, hj', hj, List.getElem?_take_of_lt, List.getD_eq_getElem?_getD]
theorem seat_fields : ∃ f0 f1, Tryz.prog.underlying 37 = some (.struct #[f0, f1]) ∧ f0.offset = 0 ∧ f1.offset = 1 ∧ f0.type = 3 ∧ f1.type = 5 := by
  obtain ⟨fs, hu, _, hf⟩ := fieldsKey
  obtain ⟨l⟩ := fs
  simp only at hf
  match l, hf with
  | [f0, f1], hf =>
    simp at hf
    exact ⟨f0, f1, hu, hf.1.2, hf.2.2, hf.1.1, hf.2.1⟩
  | [], hf => simp at hf
  | [_], hf => simp at hf
  | _ :: _ :: _ :: _, hf => simp at hf
theorem trod_seats {fuel : Nat} {cs : List Value} {x : DataW H × List MemPlace} (hf : DataW.trod enc Tryz.prog W 0 (fun _ => true) true fuel 72 cs = some x) :
    ∃ A l cap, cs = [.slice A l.length cap] ∧ Sts W W.heap.size A l ∧ l.length ≤ 9223372036854775807 ∧ l.length ≤ cap ∧ (∀ s ∈ l, WS s) ∧ (A = none → cap = 0) := by
  obtain ⟨f0, f1, hu, o0, o1, t0, t1⟩ := seat_fields
  rcases Deep.open_slice_pairs Tryz.underlying72 hu cellsKey o0 o1 (by rw [t0]; exact cells1.1) (by rw [t1]; exact cells1.2) hf with ⟨hcs, _⟩ | ⟨x, len, cap, m, n, V0, V1, D0, D1, P0, P1, hcs, _, hl, hm, hmm, _, hx⟩
  · exact ⟨none, [], 0, by simpa using hcs, fun h => absurd h (by decide), by simp, by simp, by simp, fun _ => rfl⟩
  · have hmc : m = cap := by simpa using hmm
    unfold maxLen at hm
    have each : ∀ i, i < m → ∃ a b : Int, V0 i = .int .i64 a ∧ V1 i = .int .u8 b ∧ WS (a, b) := fun i hi => by
      obtain ⟨_, _, h3, h4⟩ := hx i hi
      rw [t0] at h3
      rw [t1] at h4
      obtain ⟨a, e1, _, w1⟩ := DataW.trod_int Tryz.underlying3 h3
      obtain ⟨b, e2, _, w2⟩ := DataW.trod_int Tryz.underlying5 h4
      simp only [List.cons.injEq, and_true] at e1 e2
      obtain ⟨a0, a1⟩ := bounds_i64 w1
      obtain ⟨b0, b1⟩ := bounds_u8 w2
      exact ⟨a, b, e1, e2, by show _ ≤ a; omega, by show a ≤ _; omega, b0, by show b ≤ _; omega⟩
    obtain ⟨F, hF⟩ : ∃ F : Nat → S, ∀ i, i < m → V0 i = .int .i64 (F i).1 ∧ V1 i = .int .u8 (F i).2 ∧ WS (F i) := by
      refine ⟨fun i => if h : i < m then (Classical.choose (each i h), Classical.choose (Classical.choose_spec (each i h))) else (0, 0), fun i hi => ?_⟩
      simp only [dif_pos hi]
      exact Classical.choose_spec (Classical.choose_spec (each i hi))
    have hlen : ((List.range len).map F).length = len := by simp
    refine ⟨some x, (List.range len).map F, cap, by rw [hlen]; exact hcs, fun h0 => ?_, by omega, by omega, fun s hs => ?_, fun h => by cases h⟩
    · rw [hlen] at h0
      obtain ⟨b, off, spot⟩ := x
      have hc0 := (hx 0 (by omega)).1
      have hspot : spot = none := by simpa [Addr.add] using World.cell?_spot hc0
      subst hspot
      refine ⟨b, off, rfl, ?_, fun j hj => ?_⟩
      · have := block_lt_of_cell hc0
        rwa [add_plain] at this
      · rw [hlen] at hj
        obtain ⟨h1, h2, _, _⟩ := hx j (by omega)
        rw [add_plain] at h1 h2
        obtain ⟨e1, e2, _⟩ := hF j (by omega)
        rw [e1] at h1
        rw [e2] at h2
        have g : ((List.range len).map F).getD j (0, 0) = F j := by simp [hj, List.getD_eq_getElem?_getD]
        unfold gR gC
        rw [g]
        exact ⟨h1, by rw [Nat.add_assoc]; exact h2⟩
    · obtain ⟨i, hi, rfl⟩ := List.mem_map.1 hs
      rw [List.mem_range] at hi
      exact (hF i (by omega)).2.2
end
end Pl
namespace Fm
theorem mapM_at {α β : Type} {f : α → Option β} : ∀ {l : List α} {cs : List β}, l.mapM f = some cs → cs.length = l.length ∧ ∀ (i : Nat) (x : α), l[i]? = some x → f x = cs[i]?
  | [], cs, h => by
    simp at h
    subst h
    exact ⟨rfl, fun i x hx => by simp at hx⟩
  | a :: l, cs, h => by
    simp only [List.mapM_cons, Option.bind_eq_bind, Option.bind_eq_some_iff, Option.pure_def, Option.some.injEq] at h
    obtain ⟨b, hb, cs', hcs, rfl⟩ := h
    obtain ⟨h1, h2⟩ := mapM_at hcs
    refine ⟨by simp [h1], fun i x hx => ?_⟩
    cases i with
    | zero => simp at hx; subst hx; simpa using hb
    | succ i => simp at hx; simpa using h2 i x hx
section
variable {H : Type} {enc : TypeId × Value → H} {W : World}
theorem cells_at {a : Addr} {n : Nat} {cs : List Value} (h : W.cells? 0 a n = some cs) : cs.length = n ∧ ∀ i, i < n → W.cell? (a.add i) = cs[i]? := by
  unfold World.cells? at h
  rw [if_pos (Nat.zero_le _)] at h
  obtain ⟨h1, h2⟩ := mapM_at h
  exact ⟨by simpa using h1, fun i hi => h2 i i (by simp [hi])⟩
theorem i64b {n : Int} (h : (Lit.int .i64 n).wf = true) : -9223372036854775808 ≤ n ∧ n ≤ 9223372036854775807 := by
  obtain ⟨a, b⟩ := bounds_i64 h
  exact ⟨a, by omega⟩
theorem u8b {n : Int} (h : (Lit.int .u8 n).wf = true) : 0 ≤ n ∧ n ≤ 255 := by
  obtain ⟨a, b⟩ := bounds_u8 h
  exact ⟨a, by omega⟩
theorem strb {s : ByteArray} (h : s.size ≤ maxLen) : s.size ≤ 9223372036854775807 := by unfold maxLen at h; exact h
theorem fields_class : (match Tryz.prog.underlying 67 with | some (.struct fs) => some (fs.toList.map fun f => (f.offset, f.type)) | _ => none) = some [(0, 5), (1, 3)] := by kernel_rfl
theorem cells_class : Tryz.prog.cellsOf 67 = 2 := by kernel_rfl
set_option maxRecDepth 20000 in
theorem trod_class {fuel : Nat} {cs : List Value} {y : DataW H × List MemPlace} (hl : cs.length = 2) (h2 : DataW.trod enc Tryz.prog W 0 (fun _ => true) true fuel 67 cs = some y) :
    ∃ p : Int × Int, cs = [.int .u8 p.1, .int .i64 p.2] := by
  obtain ⟨fs, hu⟩ : ∃ fs, Tryz.prog.underlying 67 = some (.struct fs) := by
    have := fields_class
    cases hq : Tryz.prog.underlying 67 with
    | none => rw [hq] at this; cases this
    | some d => cases d <;> first | exact ⟨_, rfl⟩ | (rw [hq] at this; cases this)
  have hfs := fields_class
  rw [hu] at hfs
  simp only [Option.some.injEq] at hfs
  have hfield : ∀ (i o ty : Nat), ([(0, 5), (1, 3)] : List (Nat × Nat))[i]? = some (o, ty) → ∃ f, fs[i]? = some f ∧ f.offset = o ∧ f.type = ty := fun i o ty h => by
    rw [← hfs, List.getElem?_map] at h
    obtain ⟨f, h1, h2⟩ := Option.map_eq_some_iff.1 h
    exact ⟨f, by simpa using h1, by injection h2, by injection h2⟩
  match cs, hl with
  | [v0, v1], _ =>
    obtain ⟨xs, n', _, _, _, hxl, hff⟩ := DataW.trod_struct hu h2
    have hsz : xs.length = 2 := by
      rw [hxl]
      have := congrArg List.length hfs
      simpa using this
    obtain ⟨f0, e0, o0, t0⟩ := hfield 0 0 5 rfl
    have k0 := hff 0 f0 e0
    rw [o0, t0, show Tryz.prog.cellsOf 5 = 1 by kernel_rfl, List.getElem?_eq_getElem (by omega)] at k0
    obtain ⟨f1, e1, o1, t1⟩ := hfield 1 1 3 rfl
    have k1 := hff 1 f1 e1
    rw [o1, t1, show Tryz.prog.cellsOf 3 = 1 by kernel_rfl, List.getElem?_eq_getElem (by omega)] at k1
    simp only [List.drop_zero, List.drop_succ_cons, List.take_succ_cons, List.take_zero] at k0 k1
    obtain ⟨z0, y0, _, q0⟩ := DataW.trod_int Tryz.underlying5 k0
    obtain ⟨z1, y1, _, q1⟩ := DataW.trod_int Tryz.underlying3 k1
    simp only [List.cons.injEq, and_true] at y0 y1
    subst y0 y1
    exact ⟨(z0, z1), rfl⟩
theorem trod_classes {fuel : Nat} {cs : List Value} {x : DataW H × List MemPlace} (hf : DataW.trod enc Tryz.prog W 0 (fun _ => true) true fuel 68 cs = some x) :
    ∃ A l cap, cs = [.slice A l.length cap] ∧ Fl.Cls W W.heap.size A l ∧ l.length ≤ 9223372036854775807 ∧ l.length ≤ cap ∧ (A = none → cap = 0) ∧ (∀ a, A = some a → 0 < l.length → a.spot = none) := by
  rcases Deep.open_slice Tryz.underlying68 hf with ⟨hcs, _⟩ | ⟨x, len, cap, m, n, D, Pl, hcs, _, hl, hm, hmm, _, hx⟩
  · exact ⟨none, [], 0, by simpa using hcs, fun h => absurd h (by decide), by simp, by simp, fun _ => rfl, (fun a h => by cases h)⟩
  · simp only [if_true] at hmm
    subst hmm
    rw [cells_class] at hx
    have key : ∀ i, i < m → ∃ p : Int × Int, W.cell? ((x.add (i * 2)).add 0) = some (.int .u8 p.1) ∧ W.cell? ((x.add (i * 2)).add 1) = some (.int .i64 p.2) := fun i hi => by
      obtain ⟨cs', h1, h2⟩ := hx i hi
      obtain ⟨hl1, hc⟩ := cells_at h1
      obtain ⟨p, rfl⟩ := trod_class hl1 h2
      exact ⟨p, hc 0 (by decide), hc 1 (by decide)⟩
    obtain ⟨F, hF⟩ := Deep.choose_lt (α := Int × Int) key
    have hlen : ((List.range len).map F).length = len := by simp
    unfold maxLen at hm
    obtain ⟨b, off, spot⟩ := x
    have hsp : 0 < len → spot = none ∧ b < W.heap.size := fun h0 => by
      have g0 := (hF 0 (by omega)).1
      exact ⟨by simpa [Addr.add] using World.cell?_spot g0, by have := block_lt_of_cell g0; simpa [Addr.add] using this⟩
    refine ⟨some ⟨b, off, spot⟩, (List.range len).map F, m, by rw [hlen]; exact hcs, fun hz => ?_, by omega, by omega, (fun h => by cases h), (fun a h hz => by injection h with h; subst h; exact (hsp (by omega)).1)⟩
    rw [hlen] at hz
    obtain ⟨rfl, hB⟩ := hsp hz
    refine ⟨b, off, rfl, hB, fun j hj => ?_⟩
    rw [hlen] at hj
    obtain ⟨q0, q1⟩ := hF j (by omega)
    simp only [List.getElem_map, List.getElem_range]
    rw [add_plain, add_plain] at q0 q1
    exact ⟨q0, q1⟩
theorem fields_key : (match Tryz.prog.underlying 33 with | some (.struct fs) => some (fs.toList.map fun f => (f.offset, f.type)) | _ => none) = some [(0, 9), (1, 3)] := by kernel_rfl
theorem cells_key : Tryz.prog.cellsOf 33 = 2 := by kernel_rfl
set_option maxRecDepth 20000 in
theorem trod_key {fuel : Nat} {cs : List Value} {y : DataW H × List MemPlace} (hl : cs.length = 2) (h2 : DataW.trod enc Tryz.prog W 0 (fun _ => true) true fuel 33 cs = some y) :
    ∃ c n, cs = [.string c, .int .i64 n] ∧ c.size ≤ 9223372036854775807 ∧ (Lit.int .i64 n).wf = true := by
  obtain ⟨fs, hu⟩ : ∃ fs, Tryz.prog.underlying 33 = some (.struct fs) := by
    have := fields_key
    cases hq : Tryz.prog.underlying 33 with
    | none => rw [hq] at this; cases this
    | some d => cases d <;> first | exact ⟨_, rfl⟩ | (rw [hq] at this; cases this)
  have hfs := fields_key
  rw [hu] at hfs
  simp only [Option.some.injEq] at hfs
  have hfield : ∀ (i o ty : Nat), ([(0, 9), (1, 3)] : List (Nat × Nat))[i]? = some (o, ty) → ∃ f, fs[i]? = some f ∧ f.offset = o ∧ f.type = ty := fun i o ty h => by
    rw [← hfs, List.getElem?_map] at h
    obtain ⟨f, h1, h2⟩ := Option.map_eq_some_iff.1 h
    exact ⟨f, by simpa using h1, by injection h2, by injection h2⟩
  match cs, hl with
  | [v0, v1], _ =>
    obtain ⟨xs, n', _, _, _, hxl, hff⟩ := DataW.trod_struct hu h2
    have hsz : xs.length = 2 := by
      rw [hxl]
      have := congrArg List.length hfs
      simpa using this
    obtain ⟨f0, e0, o0, t0⟩ := hfield 0 0 9 rfl
    have k0 := hff 0 f0 e0
    rw [o0, t0, show Tryz.prog.cellsOf 9 = 1 by kernel_rfl, List.getElem?_eq_getElem (by omega)] at k0
    obtain ⟨f1, e1, o1, t1⟩ := hfield 1 1 3 rfl
    have k1 := hff 1 f1 e1
    rw [o1, t1, show Tryz.prog.cellsOf 3 = 1 by kernel_rfl, List.getElem?_eq_getElem (by omega)] at k1
    simp only [List.drop_zero, List.drop_succ_cons, List.take_succ_cons, List.take_zero] at k0 k1
    obtain ⟨z0, y0, _, q0⟩ := DataW.trod_string Tryz.underlying9 k0
    obtain ⟨z1, y1, _, q1⟩ := DataW.trod_int Tryz.underlying3 k1
    simp only [List.cons.injEq, and_true] at y0 y1
    subst y0 y1
    exact ⟨z0, z1, rfl, strb q0, q1⟩
theorem fields_leg : (match Tryz.prog.underlying 35 with | some (.struct fs) => some (fs.toList.map fun f => (f.offset, f.type)) | _ => none) = some [(0, 33), (2, 3)] := by kernel_rfl
theorem cells_leg : Tryz.prog.cellsOf 35 = 3 := by kernel_rfl
set_option maxRecDepth 20000 in
theorem trod_leg {fuel : Nat} {cs : List Value} {y : DataW H × List MemPlace} (hl : cs.length = 3) (h2 : DataW.trod enc Tryz.prog W 0 (fun _ => true) true fuel 35 cs = some y) :
    ∃ x : Hd.L, cs = [.string x.car, .int .i64 x.num, .int .i64 x.day] ∧ Hd.OkL x := by
  obtain ⟨fs, hu⟩ : ∃ fs, Tryz.prog.underlying 35 = some (.struct fs) := by
    have := fields_leg
    cases hq : Tryz.prog.underlying 35 with
    | none => rw [hq] at this; cases this
    | some d => cases d <;> first | exact ⟨_, rfl⟩ | (rw [hq] at this; cases this)
  have hfs := fields_leg
  rw [hu] at hfs
  simp only [Option.some.injEq] at hfs
  have hfield : ∀ (i o ty : Nat), ([(0, 33), (2, 3)] : List (Nat × Nat))[i]? = some (o, ty) → ∃ f, fs[i]? = some f ∧ f.offset = o ∧ f.type = ty := fun i o ty h => by
    rw [← hfs, List.getElem?_map] at h
    obtain ⟨f, h1, h2⟩ := Option.map_eq_some_iff.1 h
    exact ⟨f, by simpa using h1, by injection h2, by injection h2⟩
  match cs, hl with
  | [v0, v1, v2], _ =>
    obtain ⟨xs, n', _, _, _, hxl, hff⟩ := DataW.trod_struct hu h2
    have hsz : xs.length = 2 := by
      rw [hxl]
      have := congrArg List.length hfs
      simpa using this
    obtain ⟨f0, e0, o0, t0⟩ := hfield 0 0 33 rfl
    have k0 := hff 0 f0 e0
    rw [o0, t0, show Tryz.prog.cellsOf 33 = 2 by kernel_rfl, List.getElem?_eq_getElem (by omega)] at k0
    obtain ⟨f1, e1, o1, t1⟩ := hfield 1 2 3 rfl
    have k1 := hff 1 f1 e1
    rw [o1, t1, show Tryz.prog.cellsOf 3 = 1 by kernel_rfl, List.getElem?_eq_getElem (by omega)] at k1
    simp only [List.drop_zero, List.drop_succ_cons, List.take_succ_cons, List.take_zero] at k0 k1
    obtain ⟨c0, n0, y0, b0, w0⟩ := trod_key rfl k0
    obtain ⟨z1, y1, _, q1⟩ := DataW.trod_int Tryz.underlying3 k1
    simp only [List.cons.injEq, and_true] at y0 y1
    obtain ⟨rfl, rfl⟩ := y0
    subst y1
    exact ⟨⟨c0, n0, z1⟩, rfl, ⟨b0, (i64b w0).1, (i64b w0).2, (i64b q1).1, (i64b q1).2⟩⟩
theorem fields_seat : (match Tryz.prog.underlying 37 with | some (.struct fs) => some (fs.toList.map fun f => (f.offset, f.type)) | _ => none) = some [(0, 3), (1, 5)] := by kernel_rfl
theorem cells_seat : Tryz.prog.cellsOf 37 = 2 := by kernel_rfl
set_option maxRecDepth 20000 in
theorem trod_seat {fuel : Nat} {cs : List Value} {y : DataW H × List MemPlace} (hl : cs.length = 2) (h2 : DataW.trod enc Tryz.prog W 0 (fun _ => true) true fuel 37 cs = some y) :
    ∃ s : Int × Int, cs = [.int .i64 s.1, .int .u8 s.2] ∧ Pl.WS s := by
  obtain ⟨fs, hu⟩ : ∃ fs, Tryz.prog.underlying 37 = some (.struct fs) := by
    have := fields_seat
    cases hq : Tryz.prog.underlying 37 with
    | none => rw [hq] at this; cases this
    | some d => cases d <;> first | exact ⟨_, rfl⟩ | (rw [hq] at this; cases this)
  have hfs := fields_seat
  rw [hu] at hfs
  simp only [Option.some.injEq] at hfs
  have hfield : ∀ (i o ty : Nat), ([(0, 3), (1, 5)] : List (Nat × Nat))[i]? = some (o, ty) → ∃ f, fs[i]? = some f ∧ f.offset = o ∧ f.type = ty := fun i o ty h => by
    rw [← hfs, List.getElem?_map] at h
    obtain ⟨f, h1, h2⟩ := Option.map_eq_some_iff.1 h
    exact ⟨f, by simpa using h1, by injection h2, by injection h2⟩
  match cs, hl with
  | [v0, v1], _ =>
    obtain ⟨xs, n', _, _, _, hxl, hff⟩ := DataW.trod_struct hu h2
    have hsz : xs.length = 2 := by
      rw [hxl]
      have := congrArg List.length hfs
      simpa using this
    obtain ⟨f0, e0, o0, t0⟩ := hfield 0 0 3 rfl
    have k0 := hff 0 f0 e0
    rw [o0, t0, show Tryz.prog.cellsOf 3 = 1 by kernel_rfl, List.getElem?_eq_getElem (by omega)] at k0
    obtain ⟨f1, e1, o1, t1⟩ := hfield 1 1 5 rfl
    have k1 := hff 1 f1 e1
    rw [o1, t1, show Tryz.prog.cellsOf 5 = 1 by kernel_rfl, List.getElem?_eq_getElem (by omega)] at k1
    simp only [List.drop_zero, List.drop_succ_cons, List.take_succ_cons, List.take_zero] at k0 k1
    obtain ⟨z0, y0, _, q0⟩ := DataW.trod_int Tryz.underlying3 k0
    obtain ⟨z1, y1, _, q1⟩ := DataW.trod_int Tryz.underlying5 k1
    simp only [List.cons.injEq, and_true] at y0 y1
    subst y0 y1
    exact ⟨(z0, z1), rfl, (i64b q0).1, (i64b q0).2, (u8b q1).1, (u8b q1).2⟩
theorem fields_holder : (match Tryz.prog.underlying 39 with | some (.struct fs) => some (fs.toList.map fun f => (f.offset, f.type)) | _ => none) = some [(0, 9), (1, 3)] := by kernel_rfl
theorem cells_holder : Tryz.prog.cellsOf 39 = 2 := by kernel_rfl
set_option maxRecDepth 20000 in
theorem trod_holder {fuel : Nat} {cs : List Value} {y : DataW H × List MemPlace} (hl : cs.length = 2) (h2 : DataW.trod enc Tryz.prog W 0 (fun _ => true) true fuel 39 cs = some y) :
    ∃ h : Hd.H, cs = [.string h.loc, .int .i64 h.pax] := by
  obtain ⟨fs, hu⟩ : ∃ fs, Tryz.prog.underlying 39 = some (.struct fs) := by
    have := fields_holder
    cases hq : Tryz.prog.underlying 39 with
    | none => rw [hq] at this; cases this
    | some d => cases d <;> first | exact ⟨_, rfl⟩ | (rw [hq] at this; cases this)
  have hfs := fields_holder
  rw [hu] at hfs
  simp only [Option.some.injEq] at hfs
  have hfield : ∀ (i o ty : Nat), ([(0, 9), (1, 3)] : List (Nat × Nat))[i]? = some (o, ty) → ∃ f, fs[i]? = some f ∧ f.offset = o ∧ f.type = ty := fun i o ty h => by
    rw [← hfs, List.getElem?_map] at h
    obtain ⟨f, h1, h2⟩ := Option.map_eq_some_iff.1 h
    exact ⟨f, by simpa using h1, by injection h2, by injection h2⟩
  match cs, hl with
  | [v0, v1], _ =>
    obtain ⟨xs, n', _, _, _, hxl, hff⟩ := DataW.trod_struct hu h2
    have hsz : xs.length = 2 := by
      rw [hxl]
      have := congrArg List.length hfs
      simpa using this
    obtain ⟨f0, e0, o0, t0⟩ := hfield 0 0 9 rfl
    have k0 := hff 0 f0 e0
    rw [o0, t0, show Tryz.prog.cellsOf 9 = 1 by kernel_rfl, List.getElem?_eq_getElem (by omega)] at k0
    obtain ⟨f1, e1, o1, t1⟩ := hfield 1 1 3 rfl
    have k1 := hff 1 f1 e1
    rw [o1, t1, show Tryz.prog.cellsOf 3 = 1 by kernel_rfl, List.getElem?_eq_getElem (by omega)] at k1
    simp only [List.drop_zero, List.drop_succ_cons, List.take_succ_cons, List.take_zero] at k0 k1
    obtain ⟨z0, y0, _, q0⟩ := DataW.trod_string Tryz.underlying9 k0
    obtain ⟨z1, y1, _, q1⟩ := DataW.trod_int Tryz.underlying3 k1
    simp only [List.cons.injEq, and_true] at y0 y1
    subst y0 y1
    exact ⟨⟨z0, z1⟩, rfl⟩
theorem fields_act : (match Tryz.prog.underlying 41 with | some (.struct fs) => some (fs.toList.map fun f => (f.offset, f.type)) | _ => none) = some [(0, 3), (1, 3), (2, 35), (5, 37), (7, 39)] := by kernel_rfl
theorem cells_act : Tryz.prog.cellsOf 41 = 9 := by kernel_rfl
set_option maxRecDepth 20000 in
theorem trod_act {fuel : Nat} {cs : List Value} {y : DataW H × List MemPlace} (hl : cs.length = 9) (h2 : DataW.trod enc Tryz.prog W 0 (fun _ => true) true fuel 41 cs = some y) :
    ∃ a : Hd.A, cs = Hd.acs a ∧ Hd.OkA a := by
  obtain ⟨fs, hu⟩ : ∃ fs, Tryz.prog.underlying 41 = some (.struct fs) := by
    have := fields_act
    cases hq : Tryz.prog.underlying 41 with
    | none => rw [hq] at this; cases this
    | some d => cases d <;> first | exact ⟨_, rfl⟩ | (rw [hq] at this; cases this)
  have hfs := fields_act
  rw [hu] at hfs
  simp only [Option.some.injEq] at hfs
  have hfield : ∀ (i o ty : Nat), ([(0, 3), (1, 3), (2, 35), (5, 37), (7, 39)] : List (Nat × Nat))[i]? = some (o, ty) → ∃ f, fs[i]? = some f ∧ f.offset = o ∧ f.type = ty := fun i o ty h => by
    rw [← hfs, List.getElem?_map] at h
    obtain ⟨f, h1, h2⟩ := Option.map_eq_some_iff.1 h
    exact ⟨f, by simpa using h1, by injection h2, by injection h2⟩
  match cs, hl with
  | [v0, v1, v2, v3, v4, v5, v6, v7, v8], _ =>
    obtain ⟨xs, n', _, _, _, hxl, hff⟩ := DataW.trod_struct hu h2
    have hsz : xs.length = 5 := by
      rw [hxl]
      have := congrArg List.length hfs
      simpa using this
    obtain ⟨f0, e0, o0, t0⟩ := hfield 0 0 3 rfl
    have k0 := hff 0 f0 e0
    rw [o0, t0, show Tryz.prog.cellsOf 3 = 1 by kernel_rfl, List.getElem?_eq_getElem (by omega)] at k0
    obtain ⟨f1, e1, o1, t1⟩ := hfield 1 1 3 rfl
    have k1 := hff 1 f1 e1
    rw [o1, t1, show Tryz.prog.cellsOf 3 = 1 by kernel_rfl, List.getElem?_eq_getElem (by omega)] at k1
    obtain ⟨f2, e2, o2, t2⟩ := hfield 2 2 35 rfl
    have k2 := hff 2 f2 e2
    rw [o2, t2, show Tryz.prog.cellsOf 35 = 3 by kernel_rfl, List.getElem?_eq_getElem (by omega)] at k2
    obtain ⟨f3, e3, o3, t3⟩ := hfield 3 5 37 rfl
    have k3 := hff 3 f3 e3
    rw [o3, t3, show Tryz.prog.cellsOf 37 = 2 by kernel_rfl, List.getElem?_eq_getElem (by omega)] at k3
    obtain ⟨f4, e4, o4, t4⟩ := hfield 4 7 39 rfl
    have k4 := hff 4 f4 e4
    rw [o4, t4, show Tryz.prog.cellsOf 39 = 2 by kernel_rfl, List.getElem?_eq_getElem (by omega)] at k4
    simp only [List.drop_zero, List.drop_succ_cons, List.take_succ_cons, List.take_zero] at k0 k1 k2 k3 k4
    obtain ⟨z0, y0, _, q0⟩ := DataW.trod_int Tryz.underlying3 k0
    obtain ⟨z1, y1, _, q1⟩ := DataW.trod_int Tryz.underlying3 k1
    obtain ⟨x2, y2, q2⟩ := trod_leg rfl k2
    obtain ⟨s3, y3, q3⟩ := trod_seat rfl k3
    obtain ⟨h4, y4⟩ := trod_holder rfl k4
    simp only [List.cons.injEq, and_true] at y0 y1 y2 y3 y4
    obtain ⟨rfl, rfl, rfl⟩ := y2
    obtain ⟨rfl, rfl⟩ := y3
    obtain ⟨rfl, rfl⟩ := y4
    subst y0 y1
    exact ⟨⟨z0, z1, x2.car, x2.num, x2.day, s3.1, s3.2, h4.loc, h4.pax⟩, rfl, ⟨(i64b q1).1, (i64b q1).2, q2.car, q2.n0, q2.n1, q2.d0, q2.d1, q3.1, q3.2.1, q3.2.2.1, q3.2.2.2⟩⟩
theorem fields_flight : (match Tryz.prog.underlying 70 with | some (.struct fs) => some (fs.toList.map fun f => (f.offset, f.type)) | _ => none) = some [(0, 33), (2, 9), (3, 9), (4, 5), (5, 3), (6, 3), (7, 68), (8, 3)] := by kernel_rfl
theorem cells_flight : Tryz.prog.cellsOf 70 = 9 := by kernel_rfl
set_option maxRecDepth 20000 in
theorem trod_flight {fuel : Nat} {cs : List Value} {y : DataW H × List MemPlace} (hl : cs.length = 9) (h2 : DataW.trod enc Tryz.prog W 0 (fun _ => true) true fuel 70 cs = some y) :
    ∃ r : Fl.R, cs = Fl.enc r ∧ Fl.Wf r ∧ Fl.Cls W W.heap.size r.A r.f.cls := by
  obtain ⟨fs, hu⟩ : ∃ fs, Tryz.prog.underlying 70 = some (.struct fs) := by
    have := fields_flight
    cases hq : Tryz.prog.underlying 70 with
    | none => rw [hq] at this; cases this
    | some d => cases d <;> first | exact ⟨_, rfl⟩ | (rw [hq] at this; cases this)
  have hfs := fields_flight
  rw [hu] at hfs
  simp only [Option.some.injEq] at hfs
  have hfield : ∀ (i o ty : Nat), ([(0, 33), (2, 9), (3, 9), (4, 5), (5, 3), (6, 3), (7, 68), (8, 3)] : List (Nat × Nat))[i]? = some (o, ty) → ∃ f, fs[i]? = some f ∧ f.offset = o ∧ f.type = ty := fun i o ty h => by
    rw [← hfs, List.getElem?_map] at h
    obtain ⟨f, h1, h2⟩ := Option.map_eq_some_iff.1 h
    exact ⟨f, by simpa using h1, by injection h2, by injection h2⟩
  match cs, hl with
  | [v0, v1, v2, v3, v4, v5, v6, v7, v8], _ =>
    obtain ⟨xs, n', _, _, _, hxl, hff⟩ := DataW.trod_struct hu h2
    have hsz : xs.length = 8 := by
      rw [hxl]
      have := congrArg List.length hfs
      simpa using this
    obtain ⟨f0, e0, o0, t0⟩ := hfield 0 0 33 rfl
    have k0 := hff 0 f0 e0
    rw [o0, t0, show Tryz.prog.cellsOf 33 = 2 by kernel_rfl, List.getElem?_eq_getElem (by omega)] at k0
    obtain ⟨f1, e1, o1, t1⟩ := hfield 1 2 9 rfl
    have k1 := hff 1 f1 e1
    rw [o1, t1, show Tryz.prog.cellsOf 9 = 1 by kernel_rfl, List.getElem?_eq_getElem (by omega)] at k1
    obtain ⟨f2, e2, o2, t2⟩ := hfield 2 3 9 rfl
    have k2 := hff 2 f2 e2
    rw [o2, t2, show Tryz.prog.cellsOf 9 = 1 by kernel_rfl, List.getElem?_eq_getElem (by omega)] at k2
    obtain ⟨f3, e3, o3, t3⟩ := hfield 3 4 5 rfl
    have k3 := hff 3 f3 e3
    rw [o3, t3, show Tryz.prog.cellsOf 5 = 1 by kernel_rfl, List.getElem?_eq_getElem (by omega)] at k3
    obtain ⟨f4, e4, o4, t4⟩ := hfield 4 5 3 rfl
    have k4 := hff 4 f4 e4
    rw [o4, t4, show Tryz.prog.cellsOf 3 = 1 by kernel_rfl, List.getElem?_eq_getElem (by omega)] at k4
    obtain ⟨f5, e5, o5, t5⟩ := hfield 5 6 3 rfl
    have k5 := hff 5 f5 e5
    rw [o5, t5, show Tryz.prog.cellsOf 3 = 1 by kernel_rfl, List.getElem?_eq_getElem (by omega)] at k5
    obtain ⟨f6, e6, o6, t6⟩ := hfield 6 7 68 rfl
    have k6 := hff 6 f6 e6
    rw [o6, t6, show Tryz.prog.cellsOf 68 = 1 by kernel_rfl, List.getElem?_eq_getElem (by omega)] at k6
    obtain ⟨f7, e7, o7, t7⟩ := hfield 7 8 3 rfl
    have k7 := hff 7 f7 e7
    rw [o7, t7, show Tryz.prog.cellsOf 3 = 1 by kernel_rfl, List.getElem?_eq_getElem (by omega)] at k7
    simp only [List.drop_zero, List.drop_succ_cons, List.take_succ_cons, List.take_zero] at k0 k1 k2 k3 k4 k5 k6 k7
    obtain ⟨c0, n0, y0, b0, w0⟩ := trod_key rfl k0
    obtain ⟨z1, y1, _, q1⟩ := DataW.trod_string Tryz.underlying9 k1
    obtain ⟨z2, y2, _, q2⟩ := DataW.trod_string Tryz.underlying9 k2
    obtain ⟨z3, y3, _, q3⟩ := DataW.trod_int Tryz.underlying5 k3
    obtain ⟨z4, y4, _, q4⟩ := DataW.trod_int Tryz.underlying3 k4
    obtain ⟨z5, y5, _, q5⟩ := DataW.trod_int Tryz.underlying3 k5
    obtain ⟨A6, l6, cap6, y6, hC6, b6, c6, n6, s6⟩ := trod_classes k6
    obtain ⟨z7, y7, _, q7⟩ := DataW.trod_int Tryz.underlying3 k7
    simp only [List.cons.injEq, and_true] at y0 y1 y2 y3 y4 y5 y6 y7
    obtain ⟨rfl, rfl⟩ := y0
    subst y1 y2 y3 y4 y5 y6 y7
    exact ⟨⟨⟨c0, n0, z1, z2, z3, z4, z5, l6, z7⟩, A6, cap6⟩, rfl, ⟨b0, strb q1, strb q2, (i64b w0).1, (i64b w0).2, (u8b q3).1, (u8b q3).2, (i64b q4).1, (i64b q4).2, (i64b q5).1, (i64b q5).2, b6, c6, n6, s6⟩, hC6⟩
theorem trod_flights {fuel : Nat} {cs : List Value} {x : DataW H × List MemPlace} (hf : DataW.trod enc Tryz.prog W 0 (fun _ => true) true fuel 22 cs = some x) :
    ∃ A rs cap, cs = [.slice A rs.length cap] ∧ Fl.Fls W W.heap.size A rs ∧ rs.length ≤ 9223372036854775807 := by
  rcases Deep.open_slice Tryz.underlying22 hf with ⟨hcs, _⟩ | ⟨x, len, cap, m, n, D, Pl, hcs, _, hl, hm, hmm, _, hx⟩
  · exact ⟨none, [], 0, by simpa using hcs, ⟨fun h => absurd h (by decide), by simp, by simp⟩, by simp⟩
  · simp only [if_true] at hmm
    subst hmm
    rw [cells_flight] at hx
    have key : ∀ i, i < m → ∃ r : Fl.R, (∀ j v, (Fl.enc r)[j]? = some v → W.cell? ((x.add (i * 9)).add j) = some v) ∧ Fl.Wf r ∧ Fl.Cls W W.heap.size r.A r.f.cls := fun i hi => by
      obtain ⟨cs', h1, h2⟩ := hx i hi
      obtain ⟨hl1, hc⟩ := cells_at h1
      obtain ⟨r, rfl, hw, hC⟩ := trod_flight hl1 h2
      refine ⟨r, fun j v hv => ?_, hw, hC⟩
      have hj : j < 9 := by have := (List.getElem?_eq_some_iff.1 hv).1; rwa [Fl.enc_len] at this
      rw [hc j hj, hv]
    obtain ⟨F, hF⟩ := Deep.choose_lt (α := Fl.R) key
    have hlen : ((List.range len).map F).length = len := by simp
    unfold maxLen at hm
    obtain ⟨b, off, spot⟩ := x
    have hsp : 0 < len → spot = none ∧ b < W.heap.size := fun h0 => by
      have g0 := (hF 0 (by omega)).1 0 _ rfl
      exact ⟨by simpa [Addr.add] using World.cell?_spot g0, by have := block_lt_of_cell g0; simpa [Addr.add] using this⟩
    refine ⟨some ⟨b, off, spot⟩, (List.range len).map F, m, by rw [hlen]; exact hcs, ⟨fun hz => ?_, fun r hr => ?_, fun r hr => ?_⟩, by omega⟩
    · rw [hlen] at hz
      obtain ⟨rfl, hB⟩ := hsp hz
      refine ⟨b, off, rfl, hB, fun j hj i v hv => ?_⟩
      rw [hlen] at hj
      simp only [List.getElem_map, List.getElem_range] at hv
      have := (hF j (by omega)).1 i v hv
      rwa [add_plain, add_plain] at this
    · obtain ⟨i, hi, rfl⟩ := List.mem_map.1 hr
      rw [List.mem_range] at hi
      exact (hF i (by omega)).2.2
    · obtain ⟨i, hi, rfl⟩ := List.mem_map.1 hr
      rw [List.mem_range] at hi
      exact (hF i (by omega)).2.1
theorem fields_plan : (match Tryz.prog.underlying 74 with | some (.struct fs) => some (fs.toList.map fun f => (f.offset, f.type)) | _ => none) = some [(0, 3), (1, 3), (2, 9), (3, 71), (4, 72)] := by kernel_rfl
theorem cells_plan : Tryz.prog.cellsOf 74 = 5 := by kernel_rfl
set_option maxRecDepth 20000 in
theorem trod_plan {fuel : Nat} {cs : List Value} {y : DataW H × List MemPlace} (hl : cs.length = 5) (h2 : DataW.trod enc Tryz.prog W 0 (fun _ => true) true fuel 74 cs = some y) :
    ∃ r : Pl.R, cs = Pl.enc r ∧ Pl.Wf r ∧ Pl.Ints W W.heap.size r.eA r.p.ex ∧ Pl.Sts W W.heap.size r.bA r.p.bl := by
  obtain ⟨fs, hu⟩ : ∃ fs, Tryz.prog.underlying 74 = some (.struct fs) := by
    have := fields_plan
    cases hq : Tryz.prog.underlying 74 with
    | none => rw [hq] at this; cases this
    | some d => cases d <;> first | exact ⟨_, rfl⟩ | (rw [hq] at this; cases this)
  have hfs := fields_plan
  rw [hu] at hfs
  simp only [Option.some.injEq] at hfs
  have hfield : ∀ (i o ty : Nat), ([(0, 3), (1, 3), (2, 9), (3, 71), (4, 72)] : List (Nat × Nat))[i]? = some (o, ty) → ∃ f, fs[i]? = some f ∧ f.offset = o ∧ f.type = ty := fun i o ty h => by
    rw [← hfs, List.getElem?_map] at h
    obtain ⟨f, h1, h2⟩ := Option.map_eq_some_iff.1 h
    exact ⟨f, by simpa using h1, by injection h2, by injection h2⟩
  match cs, hl with
  | [v0, v1, v2, v3, v4], _ =>
    obtain ⟨xs, n', _, _, _, hxl, hff⟩ := DataW.trod_struct hu h2
    have hsz : xs.length = 5 := by
      rw [hxl]
      have := congrArg List.length hfs
      simpa using this
    obtain ⟨f0, e0, o0, t0⟩ := hfield 0 0 3 rfl
    have k0 := hff 0 f0 e0
    rw [o0, t0, show Tryz.prog.cellsOf 3 = 1 by kernel_rfl, List.getElem?_eq_getElem (by omega)] at k0
    obtain ⟨f1, e1, o1, t1⟩ := hfield 1 1 3 rfl
    have k1 := hff 1 f1 e1
    rw [o1, t1, show Tryz.prog.cellsOf 3 = 1 by kernel_rfl, List.getElem?_eq_getElem (by omega)] at k1
    obtain ⟨f2, e2, o2, t2⟩ := hfield 2 2 9 rfl
    have k2 := hff 2 f2 e2
    rw [o2, t2, show Tryz.prog.cellsOf 9 = 1 by kernel_rfl, List.getElem?_eq_getElem (by omega)] at k2
    obtain ⟨f3, e3, o3, t3⟩ := hfield 3 3 71 rfl
    have k3 := hff 3 f3 e3
    rw [o3, t3, show Tryz.prog.cellsOf 71 = 1 by kernel_rfl, List.getElem?_eq_getElem (by omega)] at k3
    obtain ⟨f4, e4, o4, t4⟩ := hfield 4 4 72 rfl
    have k4 := hff 4 f4 e4
    rw [o4, t4, show Tryz.prog.cellsOf 72 = 1 by kernel_rfl, List.getElem?_eq_getElem (by omega)] at k4
    simp only [List.drop_zero, List.drop_succ_cons, List.take_succ_cons, List.take_zero] at k0 k1 k2 k3 k4
    obtain ⟨z0, y0, _, q0⟩ := DataW.trod_int Tryz.underlying3 k0
    obtain ⟨z1, y1, _, q1⟩ := DataW.trod_int Tryz.underlying3 k1
    obtain ⟨z2, y2, _, q2⟩ := DataW.trod_string Tryz.underlying9 k2
    obtain ⟨A3, l3, cap3, y3, hI3, b3, c3, w3, n3⟩ := Pl.trod_ints k3
    obtain ⟨A4, l4, cap4, y4, hS4, b4, c4, w4, n4⟩ := Pl.trod_seats k4
    simp only [List.cons.injEq, and_true] at y0 y1 y2 y3 y4
    subst y0 y1 y2 y3 y4
    exact ⟨⟨⟨z0, z1, z2, l3, l4⟩, A3, cap3, A4, cap4⟩, rfl, ⟨strb q2, (i64b q0).1, (i64b q0).2, (i64b q1).1, (i64b q1).2, b3, b4, c3, c4, fun s hs => ⟨(w4 s hs).2.2.1, (w4 s hs).2.2.2⟩⟩, hI3, hS4⟩
instance : Inhabited Pl.R := ⟨Hd.Q0⟩
instance : Inhabited Hd.A := ⟨⟨0, 0, ⟨#[]⟩, 0, 0, 0, 0, ⟨#[]⟩, 0⟩⟩
theorem trod_plans {fuel : Nat} {cs : List Value} {x : DataW H × List MemPlace} (hf : DataW.trod enc Tryz.prog W 0 (fun _ => true) true fuel 23 cs = some x) :
    ∃ A rs cap, cs = [.slice A rs.length cap] ∧ Hd.Plns W W.heap.size A rs ∧ rs.length ≤ 9223372036854775807 := by
  rcases Deep.open_slice Tryz.underlying23 hf with ⟨hcs, _⟩ | ⟨x, len, cap, m, n, D, Pl', hcs, _, hl, hm, hmm, _, hx⟩
  · exact ⟨none, [], 0, by simpa using hcs, ⟨fun h => absurd h (by decide), by simp, by simp, by simp⟩, by simp⟩
  · simp only [if_true] at hmm
    subst hmm
    rw [cells_plan] at hx
    have key : ∀ i, i < m → ∃ r : Pl.R, (∀ j v, (Pl.enc r)[j]? = some v → W.cell? ((x.add (i * 5)).add j) = some v) ∧ Pl.Wf r ∧ Pl.Ints W W.heap.size r.eA r.p.ex ∧ Pl.Sts W W.heap.size r.bA r.p.bl := fun i hi => by
      obtain ⟨cs', h1, h2⟩ := hx i hi
      obtain ⟨hl1, hc⟩ := cells_at h1
      obtain ⟨r, rfl, hw, hI, hS⟩ := trod_plan hl1 h2
      refine ⟨r, fun j v hv => ?_, hw, hI, hS⟩
      have hj : j < 5 := (List.getElem?_eq_some_iff.1 hv).1
      rw [hc j hj, hv]
    obtain ⟨F, hF⟩ := Deep.choose_lt (α := Pl.R) key
    have hlen : ((List.range len).map F).length = len := by simp
    unfold maxLen at hm
    obtain ⟨b, off, spot⟩ := x
    have hsp : 0 < len → spot = none ∧ b < W.heap.size := fun h0 => by
      have g0 := (hF 0 (by omega)).1 0 _ rfl
      exact ⟨by simpa [Addr.add] using World.cell?_spot g0, by have := block_lt_of_cell g0; simpa [Addr.add] using this⟩
    refine ⟨some ⟨b, off, spot⟩, (List.range len).map F, m, by rw [hlen]; exact hcs, ⟨fun hz => ?_, fun r hr => ?_, fun r hr => ?_, fun r hr => ?_⟩, by omega⟩
    · rw [hlen] at hz
      obtain ⟨rfl, hB⟩ := hsp hz
      refine ⟨b, off, rfl, hB, fun j hj i v hv => ?_⟩
      rw [hlen] at hj
      simp only [List.getElem_map, List.getElem_range] at hv
      have := (hF j (by omega)).1 i v hv
      rwa [add_plain, add_plain] at this
    · obtain ⟨i, hi, rfl⟩ := List.mem_map.1 hr
      rw [List.mem_range] at hi
      exact (hF i (by omega)).2.2.1
    · obtain ⟨i, hi, rfl⟩ := List.mem_map.1 hr
      rw [List.mem_range] at hi
      exact (hF i (by omega)).2.2.2
    · obtain ⟨i, hi, rfl⟩ := List.mem_map.1 hr
      rw [List.mem_range] at hi
      exact (hF i (by omega)).2.1
/-- Flights and plans, in memory. -/
structure Wd where
  fA : Option Addr
  rs : List Fl.R
  fc : Nat
  pA : Option Addr
  ps : List Pl.R
  pc : Nat
def wv (x : Wd) : Value := .agg #[.slice x.fA x.rs.length x.fc, .slice x.pA x.ps.length x.pc]
structure WdIn (w : World) (x : Wd) : Prop where
  fls : Fl.Fls w w.heap.size x.fA x.rs
  pls : Hd.Plns w w.heap.size x.pA x.ps
  fl : x.rs.length ≤ 9223372036854775807
  pl : x.ps.length ≤ 9223372036854775807
theorem fields_world : (match Tryz.prog.underlying 25 with | some (.struct fs) => some (fs.toList.map fun f => (f.offset, f.type)) | _ => none) = some [(0, 22), (1, 23)] := by kernel_rfl
theorem cells_world : Tryz.prog.cellsOf 25 = 2 := by kernel_rfl
set_option maxRecDepth 20000 in
theorem trod_world {fuel : Nat} {cs : List Value} {y : DataW H × List MemPlace} (hl : cs.length = 2) (h2 : DataW.trod enc Tryz.prog W 0 (fun _ => true) true fuel 25 cs = some y) :
    ∃ x : Wd, cs = [.slice x.fA x.rs.length x.fc, .slice x.pA x.ps.length x.pc] ∧ WdIn W x := by
  obtain ⟨fs, hu⟩ : ∃ fs, Tryz.prog.underlying 25 = some (.struct fs) := by
    have := fields_world
    cases hq : Tryz.prog.underlying 25 with
    | none => rw [hq] at this; cases this
    | some d => cases d <;> first | exact ⟨_, rfl⟩ | (rw [hq] at this; cases this)
  have hfs := fields_world
  rw [hu] at hfs
  simp only [Option.some.injEq] at hfs
  have hfield : ∀ (i o ty : Nat), ([(0, 22), (1, 23)] : List (Nat × Nat))[i]? = some (o, ty) → ∃ f, fs[i]? = some f ∧ f.offset = o ∧ f.type = ty := fun i o ty h => by
    rw [← hfs, List.getElem?_map] at h
    obtain ⟨f, h1, h2⟩ := Option.map_eq_some_iff.1 h
    exact ⟨f, by simpa using h1, by injection h2, by injection h2⟩
  match cs, hl with
  | [v0, v1], _ =>
    obtain ⟨xs, n', _, _, _, hxl, hff⟩ := DataW.trod_struct hu h2
    have hsz : xs.length = 2 := by
      rw [hxl]
      have := congrArg List.length hfs
      simpa using this
    obtain ⟨f0, e0, o0, t0⟩ := hfield 0 0 22 rfl
    have k0 := hff 0 f0 e0
    rw [o0, t0, show Tryz.prog.cellsOf 22 = 1 by kernel_rfl, List.getElem?_eq_getElem (by omega)] at k0
    obtain ⟨f1, e1, o1, t1⟩ := hfield 1 1 23 rfl
    have k1 := hff 1 f1 e1
    rw [o1, t1, show Tryz.prog.cellsOf 23 = 1 by kernel_rfl, List.getElem?_eq_getElem (by omega)] at k1
    simp only [List.drop_zero, List.drop_succ_cons, List.take_succ_cons, List.take_zero] at k0 k1
    obtain ⟨A0, l0, cap0, y0, h0, b0⟩ := trod_flights k0
    obtain ⟨A1, l1, cap1, y1, h1, b1⟩ := trod_plans k1
    simp only [List.cons.injEq, and_true] at y0 y1
    subst y0 y1
    exact ⟨⟨A0, l0, cap0, A1, l1, cap1⟩, rfl, h0, h1, b0, b1⟩
/-- The slice at A holds the acts l. -/
def Acts (w : World) (B : Nat) (A : Option Addr) (l : List Hd.A) : Prop :=
  0 < l.length → ∃ b off, A = some ⟨b, off, none⟩ ∧ b < B ∧ ∀ j (hj : j < l.length), w.rangeAt b (off + j * 9) (Hd.acs l[j])
theorem Acts.below {w w' : World} {B B' : Nat} {A : Option Addr} {l : List Hd.A} (h : Acts w B A l) (hb : Below B' w w') (hB : B ≤ B') : Acts w' B A l := fun hl => by
  obtain ⟨b, off, e, hb', hc⟩ := h hl
  exact ⟨b, off, e, hb', fun j hj i v hv => (hb.cell (p := ⟨b, _, none⟩) (show b < B' by omega)).trans (hc j hj i v hv)⟩
theorem acs_len (a : Hd.A) : (Hd.acs a).length = 9 := rfl
theorem trod_acts {fuel : Nat} {cs : List Value} {x : DataW H × List MemPlace} (hf : DataW.trod enc Tryz.prog W 0 (fun _ => true) true fuel 26 cs = some x) :
    ∃ A l cap, cs = [.slice A l.length cap] ∧ Acts W W.heap.size A l ∧ l.length ≤ 9223372036854775807 ∧ ∀ a ∈ l, Hd.OkA a := by
  rcases Deep.open_slice Tryz.underlying26 hf with ⟨hcs, _⟩ | ⟨x, len, cap, m, n, D, Pl, hcs, _, hl, hm, hmm, _, hx⟩
  · exact ⟨none, [], 0, by simpa using hcs, fun h => absurd h (by decide), by simp, by simp⟩
  · simp only [if_true] at hmm
    subst hmm
    rw [cells_act] at hx
    have key : ∀ i, i < m → ∃ r : Hd.A, (∀ j v, (Hd.acs r)[j]? = some v → W.cell? ((x.add (i * 9)).add j) = some v) ∧ Hd.OkA r := fun i hi => by
      obtain ⟨cs', h1, h2⟩ := hx i hi
      obtain ⟨hl1, hc⟩ := cells_at h1
      obtain ⟨r, rfl, hw⟩ := trod_act hl1 h2
      refine ⟨r, fun j v hv => ?_, hw⟩
      have hj : j < 9 := by have := (List.getElem?_eq_some_iff.1 hv).1; rwa [acs_len] at this
      rw [hc j hj, hv]
    obtain ⟨F, hF⟩ := Deep.choose_lt (α := Hd.A) key
    have hlen : ((List.range len).map F).length = len := by simp
    unfold maxLen at hm
    obtain ⟨b, off, spot⟩ := x
    have hsp : 0 < len → spot = none ∧ b < W.heap.size := fun h0 => by
      have g0 := (hF 0 (by omega)).1 0 _ rfl
      exact ⟨by simpa [Addr.add] using World.cell?_spot g0, by have := block_lt_of_cell g0; simpa [Addr.add] using this⟩
    refine ⟨some ⟨b, off, spot⟩, (List.range len).map F, m, by rw [hlen]; exact hcs, fun hz => ?_, by omega, fun r hr => ?_⟩
    · rw [hlen] at hz
      obtain ⟨rfl, hB⟩ := hsp hz
      refine ⟨b, off, rfl, hB, fun j hj i v hv => ?_⟩
      rw [hlen] at hj
      simp only [List.getElem_map, List.getElem_range] at hv
      have := (hF j (by omega)).1 i v hv
      rwa [add_plain, add_plain] at this
    · obtain ⟨i, hi, rfl⟩ := List.mem_map.1 hr
      rw [List.mem_range] at hi
      exact (hF i (by omega)).2
set_option maxRecDepth 20000 in
theorem openv {T : TypeId} {fs : Array Field} {r : Reach} {b0 n : Nat} {v : Value} {d : DataW H} {p : List MemPlace} (hu : Tryz.prog.underlying T = some (.struct fs)) (hn : Tryz.prog.cellsOf T = n) (hv : Value.okWide Tryz.prog W r b0 T v) (h : DataW.Trod enc Tryz.prog W 0 (fun _ => true) true T v d p) :
    ∃ cs : List Value, v = .agg cs.toArray ∧ cs.length = n ∧ ∃ fuel, DataW.trod enc Tryz.prog W 0 (fun _ => true) true fuel T cs = some (d, p) := by
  obtain ⟨cs, rfl, hsz⟩ := okWide_struct hu hv
  obtain ⟨fuel, h2⟩ := h
  exact ⟨cs.toList, by simp, by rw [← hn, ← hsz]; simp, fuel, by simpa [Value.cells] using h2⟩
theorem structU (T : TypeId) (h : (match Tryz.prog.underlying T with | some (.struct _) => true | _ => false) = true) : ∃ fs, Tryz.prog.underlying T = some (.struct fs) := by
  split at h
  · rename_i fs he; exact ⟨fs, he⟩
  · cases h
set_option maxRecDepth 20000 in
theorem open_act {r : Reach} {b0 : Nat} {v : Value} {d : DataW H} {p : List MemPlace} (hv : Value.okWide Tryz.prog W r b0 41 v) (h : DataW.Trod enc Tryz.prog W 0 (fun _ => true) true 41 v d p) : ∃ a : Hd.A, v = Hd.av a ∧ Hd.OkA a := by
  obtain ⟨fs, hu⟩ := structU 41 (by kernel_rfl)
  obtain ⟨cs, rfl, hl, fuel, h2⟩ := openv hu cells_act hv h
  obtain ⟨a, rfl, ha⟩ := trod_act hl h2
  exact ⟨a, rfl, ha⟩
set_option maxRecDepth 20000 in
theorem open_world {r : Reach} {b0 : Nat} {v : Value} {d : DataW H} {p : List MemPlace} (hv : Value.okWide Tryz.prog W r b0 25 v) (h : DataW.Trod enc Tryz.prog W 0 (fun _ => true) true 25 v d p) : ∃ x : Wd, v = wv x ∧ WdIn W x := by
  obtain ⟨fs, hu⟩ := structU 25 (by kernel_rfl)
  obtain ⟨cs, rfl, hl, fuel, h2⟩ := openv hu cells_world hv h
  obtain ⟨a, rfl, ha⟩ := trod_world hl h2
  exact ⟨a, rfl, ha⟩
end
end Fm
end Go.Proofs.YtfodabbmjggieaaGreat
