/- What every law's proof opens its arguments by: bytes, bools, ints, calls to be made. -/
import Derived.Test.YtogkaoiiddhdbaaAwk
import Derived.Test.YtogkaoiiddhdbaaRestart
import Derived.ProofKit
import Derived.OpenShut
import Derived.ShutString
import Derived.ChangeOld
import Derived.Deep.Draws
import Derived.Deep.Grids
import Derived.Deep.Strs
namespace Go.Proofs.Ytogkaoiiddhdbaa
open Go.ChangeShapes Go.WideShapes Go.ChangeAt Go.RowKit

theorem own : ownKnob Try.prog.godebug = none := by kernel_rfl
theorem laidOut : laidOutB Try.prog = true := by kernel_rfl

namespace Dk
variable {H : Type} {enc : TypeId × Value → H} {W : World}
theorem trod_bytes {fuel : Nat} {cs : List Value} {x : DataW H × List MemPlace} (hf : DataW.trod enc Try.prog W 0 (fun _ => true) true fuel 40 cs = some x) :
    ∃ A l cap, cs = [.slice A l.length cap] ∧ Bts W (· < W.heap.size) A l ∧ l.length ≤ 9223372036854775807 ∧ l.length ≤ cap ∧ (A = none → cap = 0) := by
  rcases open_ints Try.underlying40 Try.underlying5 (by kernel_rfl) hf with ⟨hcs, _⟩ | ⟨x, len, cap, zs, hcs, _, hl, hm, hz, _, hcell, hwz⟩
  · exact ⟨none, [], 0, by simpa using hcs, fun h => absurd h (by decide), by simp, by simp, fun _ => rfl⟩
  · have hz' : zs.length = cap := by simpa using hz
    have hlen : ((zs.take len).map fun n => UInt8.ofNat n.toNat).length = len := by rw [List.length_map, List.length_take]; omega
    unfold maxLen at hm
    refine ⟨some x, (zs.take len).map fun n => UInt8.ofNat n.toNat, cap, by rw [hlen]; exact hcs, fun h0 => ?_, by omega, by omega, fun h => by cases h⟩
    rw [hlen] at h0
    obtain ⟨b, off, spot⟩ := x
    have hc0 := hcell 0 (by omega)
    have hspot : spot = none := by simpa [Addr.add] using World.cell?_spot hc0
    subst hspot
    refine ⟨b, off, rfl, ?_, fun j hj => ?_⟩
    · have := block_lt_of_cell hc0
      rwa [add_plain] at this
    · rw [hlen] at hj
      have hcj := hcell j (by omega)
      rw [add_plain] at hcj
      rw [hcj]
      have hj' : j < zs.length := by omega
      have hb := bounds_u8 (hwz zs[j] (List.getElem_mem hj'))
      simp [hj']
      omega
theorem trod_bools {fuel : Nat} {cs : List Value} {x : DataW H × List MemPlace} (hf : DataW.trod enc Try.prog W 0 (fun _ => true) true fuel 41 cs = some x) :
    ∃ A m cap, cs = [.slice A m.length cap] ∧ Bls W (· < W.heap.size) A m ∧ m.length ≤ 9223372036854775807 ∧ m.length ≤ cap ∧ (A = none → cap = 0) := by
  rcases Deep.open_bools Try.underlying41 Try.underlying4 (by kernel_rfl) hf with ⟨hcs, _⟩ | ⟨x, len, cap, B, hcs, _, hl, hm, _, hcell⟩
  · exact ⟨none, [], 0, by simpa using hcs, fun h => absurd h (by decide), by simp, by simp, fun _ => rfl⟩
  · have hlen : ((List.range len).map B).length = len := by simp
    unfold maxLen at hm
    refine ⟨some x, (List.range len).map B, cap, by rw [hlen]; exact hcs, fun h0 => ?_, by omega, by omega, fun h => by cases h⟩
    rw [hlen] at h0
    obtain ⟨b, off, spot⟩ := x
    have hc0 := hcell 0 (by omega)
    have hspot : spot = none := by simpa [Addr.add] using World.cell?_spot hc0
    subst hspot
    refine ⟨b, off, rfl, ?_, fun j hj => ?_⟩
    · have := block_lt_of_cell hc0
      rwa [add_plain] at this
    · rw [hlen] at hj
      have hcj := hcell j (by omega)
      rw [add_plain] at hcj
      rw [hcj]
      simp
/-- The slice at A holds the ints zs. -/
def Ints (w : World) (G : Nat → Prop) (A : Option Addr) (zs : List Int) : Prop :=
  0 < zs.length → ∃ b off, A = some ⟨b, off, none⟩ ∧ G b ∧ ∀ j (hj : j < zs.length), w.cell? ⟨b, off + j, none⟩ = some (.int .i64 zs[j])
theorem trod_ints {fuel : Nat} {cs : List Value} {x : DataW H × List MemPlace} (hf : DataW.trod enc Try.prog W 0 (fun _ => true) true fuel 76 cs = some x) :
    ∃ A zs cap, cs = [.slice A zs.length cap] ∧ Ints W (· < W.heap.size) A zs ∧ zs.length ≤ 9223372036854775807 ∧ ∀ n ∈ zs, (Lit.int .i64 n).wf = true := by
  rcases open_ints Try.underlying76 Try.underlying3 (by kernel_rfl) hf with ⟨hcs, _⟩ | ⟨x, len, cap, zs, hcs, _, hl, hm, hz, _, hcell, hwz⟩
  · exact ⟨none, [], 0, by simpa using hcs, fun h => absurd h (by decide), by simp, by simp⟩
  · have hz' : zs.length = cap := by simpa using hz
    have hlen : (zs.take len).length = len := by rw [List.length_take]; omega
    unfold maxLen at hm
    refine ⟨some x, zs.take len, cap, by rw [hlen]; exact hcs, fun h0 => ?_, by omega, fun n hn => hwz n (List.mem_of_mem_take hn)⟩
    rw [hlen] at h0
    obtain ⟨b, off, spot⟩ := x
    have hc0 := hcell 0 (by omega)
    have hspot : spot = none := by simpa [Addr.add] using World.cell?_spot hc0
    subst hspot
    refine ⟨b, off, rfl, ?_, fun j hj => ?_⟩
    · have := block_lt_of_cell hc0
      rwa [add_plain] at this
    · rw [hlen] at hj
      have hcj := hcell j (by omega)
      rw [add_plain] at hcj
      rw [hcj]
      have hj' : j < zs.length := by omega
      simp [hj']
theorem Ints.below {w w' : World} {A : Option Addr} {zs : List Int} (h : Ints w (· < w.heap.size) A zs) {w0 : World} (h0 : w0 = w) (hb : Below w0.heap.size w0 w') : Ints w' (· < w0.heap.size) A zs := fun hl => by
  subst h0
  obtain ⟨b, off, e, hB, hc⟩ := h hl
  exact ⟨b, off, e, hB, fun j hj => (hb.cell (p := ⟨b, off + j, none⟩) hB).trans (hc j hj)⟩
/-- A call to be made. -/
structure ActD where
  kind : Int
  i : Int
  n : Int
  size : Int
  data : List UInt8
  keep : List Bool
  mask : Int
structure ActAt (w : World) (G : Nat → Prop) (b o : Nat) (x : ActD) (Ad Ak : Option Addr) (cd ck : Nat) : Prop where
  c0 : w.cell? ⟨b, o, none⟩ = some (.int .i64 x.kind)
  c1 : w.cell? ⟨b, o + 1, none⟩ = some (.int .i64 x.i)
  c2 : w.cell? ⟨b, o + 2, none⟩ = some (.int .i64 x.n)
  c3 : w.cell? ⟨b, o + 3, none⟩ = some (.int .i64 x.size)
  c4 : w.cell? ⟨b, o + 4, none⟩ = some (.slice Ad x.data.length cd)
  c5 : w.cell? ⟨b, o + 5, none⟩ = some (.slice Ak x.keep.length ck)
  c6 : w.cell? ⟨b, o + 6, none⟩ = some (.int .u8 x.mask)
  hd : Bts w G Ad x.data
  hk : Bls w G Ak x.keep
  wk : (Lit.int .i64 x.kind).wf = true
  wi : (Lit.int .i64 x.i).wf = true
  wn : (Lit.int .i64 x.n).wf = true
  ws : (Lit.int .i64 x.size).wf = true
  wm : (Lit.int .u8 x.mask).wf = true
  ld : x.data.length ≤ 9223372036854775807
  lk : x.keep.length ≤ 9223372036854775807
  nd : Ad = none → cd = 0
  nk : Ak = none → ck = 0
  dc : x.data.length ≤ cd
  kc : x.keep.length ≤ ck
def Acts (w : World) (G : Nat → Prop) (A : Option Addr) (l : List ActD) : Prop :=
  0 < l.length → ∃ b off, A = some ⟨b, off, none⟩ ∧ G b ∧ ∀ j (hj : j < l.length), ∃ Ad Ak cd ck, ActAt w G b (off + j * 7) l[j] Ad Ak cd ck
theorem Bls.kept {w w' : World} {G : Nat → Prop} {A : Option Addr} {m : List Bool} (h : Bls w G A m) (hb : ∀ k, G k → w'.heap[k]? = w.heap[k]?) : Bls w' G A m := fun hl => by
  obtain ⟨b, off, e, hB, hc⟩ := h hl
  exact ⟨b, off, e, hB, fun j hj => (World.cell?_of_block (w := w) (a := ⟨b, off + j, none⟩) (hb b hB)).trans (hc j hj)⟩
theorem ActAt.kept {w w' : World} {G : Nat → Prop} {b o : Nat} {x : ActD} {Ad Ak : Option Addr} {cd ck : Nat} (h : ActAt w G b o x Ad Ak cd ck) (hB : G b) (hb : ∀ k, G k → w'.heap[k]? = w.heap[k]?) : ActAt w' G b o x Ad Ak cd ck := by
  have e : ∀ j, w'.cell? ⟨b, j, none⟩ = w.cell? ⟨b, j, none⟩ := fun j => World.cell?_of_block (w := w) (a := ⟨b, j, none⟩) (hb b hB)
  exact ⟨(e _).trans h.c0, (e _).trans h.c1, (e _).trans h.c2, (e _).trans h.c3, (e _).trans h.c4, (e _).trans h.c5, (e _).trans h.c6, h.hd.kept hb, h.hk.kept hb, h.wk, h.wi, h.wn, h.ws, h.wm, h.ld, h.lk, h.nd, h.nk, h.dc, h.kc⟩
theorem Acts.below {w w' : World} {A : Option Addr} {l : List ActD} (h : Acts w (· < w.heap.size) A l) (hb : Below w.heap.size w w') : Acts w' (· < w.heap.size) A l := fun hl => by
  obtain ⟨b, off, e, hB, hc⟩ := h hl
  exact ⟨b, off, e, hB, fun j hj => by
    obtain ⟨Ad, Ak, cd, ck, h⟩ := hc j hj
    exact ⟨Ad, Ak, cd, ck, h.kept hB (fun k hk => hb.block k hk)⟩⟩
theorem fields_act : (match Try.prog.underlying 43 with | some (.struct fs) => some (fs.toList.map fun f => (f.offset, f.type)) | _ => none) = some [(0, 3), (1, 3), (2, 3), (3, 3), (4, 40), (5, 41), (6, 5)] := by kernel_rfl
theorem cells_act : Try.prog.cellsOf 43 = 7 := by kernel_rfl
instance : Inhabited ActD := ⟨⟨0, 0, 0, 0, [], [], 0⟩⟩
theorem cells7 {a : Addr} {cs : List Value} (h : W.cells? 0 a 7 = some cs) : ∃ v0 v1 v2 v3 v4 v5 v6, cs = [v0, v1, v2, v3, v4, v5, v6] ∧ W.cell? (a.add 0) = some v0 ∧ W.cell? (a.add 1) = some v1 ∧ W.cell? (a.add 2) = some v2 ∧ W.cell? (a.add 3) = some v3 ∧ W.cell? (a.add 4) = some v4 ∧ W.cell? (a.add 5) = some v5 ∧ W.cell? (a.add 6) = some v6 := by
  simp only [World.cells?, Nat.zero_le, if_true, show List.range 7 = [0, 1, 2, 3, 4, 5, 6] from rfl, List.mapM_cons, List.mapM_nil] at h
  simp only [Option.bind_eq_bind, Option.bind_eq_some_iff, Option.pure_def, Option.some.injEq] at h
  obtain ⟨v0, h0, _, ⟨v1, h1, _, ⟨v2, h2, _, ⟨v3, h3, _, ⟨v4, h4, _, ⟨v5, h5, _, ⟨v6, h6, _, rfl, rfl⟩, rfl⟩, rfl⟩, rfl⟩, rfl⟩, rfl⟩, rfl⟩ := h
  exact ⟨v0, v1, v2, v3, v4, v5, v6, rfl, h0, h1, h2, h3, h4, h5, h6⟩
theorem trod_act {m : Nat} {cs' : List Value} {y : DataW H × List MemPlace} {x : Addr} (h1 : W.cells? 0 x 7 = some cs') (h2 : DataW.trod enc Try.prog W 0 (fun _ => true) true m 43 cs' = some y) :
    ∃ X : ActD, ∃ Ad Ak cd ck, cs' = [.int .i64 X.kind, .int .i64 X.i, .int .i64 X.n, .int .i64 X.size, .slice Ad X.data.length cd, .slice Ak X.keep.length ck, .int .u8 X.mask] ∧ ∀ b off, x = ⟨b, off, none⟩ → ActAt W (· < W.heap.size) b off X Ad Ak cd ck := by
  obtain ⟨fs, hu⟩ : ∃ fs, Try.prog.underlying 43 = some (.struct fs) := by
    have := fields_act
    cases hq : Try.prog.underlying 43 with
    | none => rw [hq] at this; cases this
    | some d => cases d <;> first | exact ⟨_, rfl⟩ | (rw [hq] at this; cases this)
  have hfs := fields_act
  rw [hu] at hfs
  simp only [Option.some.injEq] at hfs
  have hfield : ∀ (i o ty : Nat), ([(0, 3), (1, 3), (2, 3), (3, 3), (4, 40), (5, 41), (6, 5)] : List (Nat × Nat))[i]? = some (o, ty) → ∃ f, fs[i]? = some f ∧ f.offset = o ∧ f.type = ty := fun i o ty h => by
    rw [← hfs, List.getElem?_map] at h
    obtain ⟨f, h1, h2⟩ := Option.map_eq_some_iff.1 h
    exact ⟨f, by simpa using h1, by injection h2, by injection h2⟩
  obtain ⟨v0, v1, v2, v3, v4, v5, v6, rfl, g0, g1, g2, g3, g4, g5, g6⟩ := cells7 h1
  obtain ⟨xs, n', _, _, _, hxl, hff⟩ := DataW.trod_struct hu h2
  obtain ⟨f0, e0, o0, t0⟩ := hfield 0 0 3 rfl
  obtain ⟨f1, e1, o1, t1⟩ := hfield 1 1 3 rfl
  obtain ⟨f2, e2, o2, t2⟩ := hfield 2 2 3 rfl
  obtain ⟨f3, e3, o3, t3⟩ := hfield 3 3 3 rfl
  obtain ⟨f4, e4, o4, t4⟩ := hfield 4 4 40 rfl
  obtain ⟨f5, e5, o5, t5⟩ := hfield 5 5 41 rfl
  obtain ⟨f6, e6, o6, t6⟩ := hfield 6 6 5 rfl
  have hsz : xs.length = 7 := by
    rw [hxl]
    have := congrArg List.length hfs
    simpa using this
  have k0 := hff 0 f0 e0
  have k1 := hff 1 f1 e1
  have k2 := hff 2 f2 e2
  have k3 := hff 3 f3 e3
  have k4 := hff 4 f4 e4
  have k5 := hff 5 f5 e5
  have k6 := hff 6 f6 e6
  rw [o0, t0, show Try.prog.cellsOf 3 = 1 by kernel_rfl, List.getElem?_eq_getElem (by omega)] at k0
  rw [o1, t1, show Try.prog.cellsOf 3 = 1 by kernel_rfl, List.getElem?_eq_getElem (by omega)] at k1
  rw [o2, t2, show Try.prog.cellsOf 3 = 1 by kernel_rfl, List.getElem?_eq_getElem (by omega)] at k2
  rw [o3, t3, show Try.prog.cellsOf 3 = 1 by kernel_rfl, List.getElem?_eq_getElem (by omega)] at k3
  rw [o4, t4, show Try.prog.cellsOf 40 = 1 by kernel_rfl, List.getElem?_eq_getElem (by omega)] at k4
  rw [o5, t5, show Try.prog.cellsOf 41 = 1 by kernel_rfl, List.getElem?_eq_getElem (by omega)] at k5
  rw [o6, t6, show Try.prog.cellsOf 5 = 1 by kernel_rfl, List.getElem?_eq_getElem (by omega)] at k6
  simp only [List.drop_zero, List.drop_succ_cons, List.take_succ_cons, List.take_zero] at k0 k1 k2 k3 k4 k5 k6
  obtain ⟨z0, y0, _, q0⟩ := DataW.trod_int Try.underlying3 k0
  obtain ⟨z1, y1, _, q1⟩ := DataW.trod_int Try.underlying3 k1
  obtain ⟨z2, y2, _, q2⟩ := DataW.trod_int Try.underlying3 k2
  obtain ⟨z3, y3, _, q3⟩ := DataW.trod_int Try.underlying3 k3
  obtain ⟨Ad, ld, cd, y4, b4, q4, d4, nd⟩ := trod_bytes k4
  obtain ⟨Ak, lk, ck, y5, b5, q5, d5, nk⟩ := trod_bools k5
  obtain ⟨z6, y6, _, q6⟩ := DataW.trod_int Try.underlying5 k6
  simp only [List.cons.injEq, and_true] at y0 y1 y2 y3 y4 y5 y6
  subst y0 y1 y2 y3 y4 y5 y6
  refine ⟨⟨z0, z1, z2, z3, ld, lk, z6⟩, Ad, Ak, cd, ck, rfl, fun b off e => ?_⟩
  subst e
  rw [add_plain] at g0 g1 g2 g3 g4 g5 g6
  exact ⟨g0, g1, g2, g3, g4, g5, g6, b4, b5, q0, q1, q2, q3, q6, q4, q5, nd, nk, d4, d5⟩
theorem trod_acts {fuel : Nat} {cs : List Value} {x : DataW H × List MemPlace} (hf : DataW.trod enc Try.prog W 0 (fun _ => true) true fuel 25 cs = some x) :
    ∃ A l cap, cs = [.slice A l.length cap] ∧ Acts W (· < W.heap.size) A l ∧ l.length ≤ 9223372036854775807 := by
  rcases Deep.open_slice Try.underlying25 hf with ⟨hcs, _⟩ | ⟨x, len, cap, m, n, D, Pl, hcs, _, hl, hm, hmm, _, hx⟩
  · exact ⟨none, [], 0, by simpa using hcs, fun h => absurd h (by decide), by simp⟩
  · simp only [if_true] at hmm
    subst hmm
    rw [cells_act] at hx
    have key : ∀ i, i < len → ∃ X : ActD, ∃ Ad Ak cd ck, ∀ b off, x = ⟨b, off, none⟩ → ActAt W (· < W.heap.size) b (off + i * 7) X Ad Ak cd ck := fun i hi => by
      obtain ⟨cs', h1, h2⟩ := hx i (by omega)
      obtain ⟨X, Ad, Ak, cd, ck, _, h⟩ := trod_act h1 h2
      exact ⟨X, Ad, Ak, cd, ck, fun b off e => h b _ (by rw [e, add_plain])⟩
    obtain ⟨F, hF⟩ := Deep.choose_lt (α := ActD) (p := fun i X => ∃ Ad Ak cd ck, ∀ b off, x = ⟨b, off, none⟩ → ActAt W (· < W.heap.size) b (off + i * 7) X Ad Ak cd ck) key
    have hlen : ((List.range len).map F).length = len := by simp
    unfold maxLen at hm
    refine ⟨some x, (List.range len).map F, _, by rw [hlen]; exact hcs, fun h0 => ?_, by omega⟩
    rw [hlen] at h0
    obtain ⟨b, off, spot⟩ := x
    have hspot : spot = none ∧ b < W.heap.size := by
      obtain ⟨cs', h1, _⟩ := hx 0 (by omega)
      obtain ⟨v0, _, _, _, _, _, _, _, g0, _⟩ := cells7 h1
      exact ⟨by simpa [Addr.add] using World.cell?_spot g0, by have := block_lt_of_cell g0; simpa [Addr.add] using this⟩
    obtain ⟨rfl, hB⟩ := hspot
    refine ⟨b, off, rfl, hB, fun j hj => ?_⟩
    rw [hlen] at hj
    obtain ⟨Ad, Ak, cd, ck, h⟩ := hF j hj
    refine ⟨Ad, Ak, cd, ck, ?_⟩
    simp only [List.getElem_map, List.getElem_range]
    exact h b off rfl
end Dk
end Go.Proofs.Ytogkaoiiddhdbaa
