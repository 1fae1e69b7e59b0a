/- What every law's proof opens its arguments by: bytes, bools, ints, calls to be made. -/
import Derived.Test.YtngpdjkeoodigaaAwake
import Derived.ProofKit
import Derived.OpenShut
import Derived.ShutString
import Derived.ChangeOld
import Derived.Deep.Draws
import Derived.Deep.Grids
import Derived.Deep.Strs
namespace Go.Proofs.Ytngpdjkeoodigaa
open Go.ChangeShapes Go.WideShapes Go.ChangeAt Go.RowKit

theorem own : ownKnob Try.prog.godebug = none := by kernel_rfl
theorem laidOut : laidOutB Try.prog = true := by kernel_rfl

namespace Dk
variable {H : Type} {enc : TypeId × Value → H} {W : World}
theorem trod_bytes {fuel : Nat} {cs : List Value} {x : DataW H × List MemPlace} (hf : DataW.trod enc Try.prog W 0 (fun _ => true) true fuel 34 cs = some x) :
    ∃ A l cap, cs = [.slice A l.length cap] ∧ Bts W (· < W.heap.size) A l ∧ l.length ≤ 9223372036854775807 ∧ l.length ≤ cap ∧ (A = none → cap = 0) := by
  rcases open_ints Try.underlying34 Try.underlying5 (by kernel_rfl) hf with ⟨hcs, _⟩ | ⟨x, len, cap, zs, hcs, _, hl, hm, hz, _, hcell, hwz⟩
  · exact ⟨none, [], 0, by simpa using hcs, fun h => absurd h (by decide), by simp, by simp, fun _ => rfl⟩
  · have hz' : zs.length = cap := by simpa using hz
    have hlen : ((zs.take len).map fun n => UInt8.ofNat n.toNat).length = len := by rw [List.length_map, List.length_take]; omega
    unfold maxLen at hm
    refine ⟨some x, (zs.take len).map fun n => UInt8.ofNat n.toNat, cap, by rw [hlen]; exact hcs, fun h0 => ?_, by omega, by omega, fun h => by cases h⟩
    rw [hlen] at h0
    obtain ⟨b, off, spot⟩ := x
    have hc0 := hcell 0 (by omega)
    have hspot : spot = none := by simpa [Addr.add] using World.cell?_spot hc0
    subst hspot
    refine ⟨b, off, rfl, ?_, fun j hj => ?_⟩
    · have := block_lt_of_cell hc0
      rwa [add_plain] at this
    · rw [hlen] at hj
      have hcj := hcell j (by omega)
      rw [add_plain] at hcj
      rw [hcj]
      have hj' : j < zs.length := by omega
      have hb := bounds_u8 (hwz zs[j] (List.getElem_mem hj'))
      simp [hj']
      omega
theorem trod_bools {fuel : Nat} {cs : List Value} {x : DataW H × List MemPlace} (hf : DataW.trod enc Try.prog W 0 (fun _ => true) true fuel 35 cs = some x) :
    ∃ A m cap, cs = [.slice A m.length cap] ∧ Bls W (· < W.heap.size) A m ∧ m.length ≤ 9223372036854775807 ∧ m.length ≤ cap ∧ (A = none → cap = 0) := by
  rcases Deep.open_bools Try.underlying35 Try.underlying4 (by kernel_rfl) hf with ⟨hcs, _⟩ | ⟨x, len, cap, B, hcs, _, hl, hm, _, hcell⟩
  · exact ⟨none, [], 0, by simpa using hcs, fun h => absurd h (by decide), by simp, by simp, fun _ => rfl⟩
  · have hlen : ((List.range len).map B).length = len := by simp
    unfold maxLen at hm
    refine ⟨some x, (List.range len).map B, cap, by rw [hlen]; exact hcs, fun h0 => ?_, by omega, by omega, fun h => by cases h⟩
    rw [hlen] at h0
    obtain ⟨b, off, spot⟩ := x
    have hc0 := hcell 0 (by omega)
    have hspot : spot = none := by simpa [Addr.add] using World.cell?_spot hc0
    subst hspot
    refine ⟨b, off, rfl, ?_, fun j hj => ?_⟩
    · have := block_lt_of_cell hc0
      rwa [add_plain] at this
    · rw [hlen] at hj
      have hcj := hcell j (by omega)
      rw [add_plain] at hcj
      rw [hcj]
      simp
/-- The slice at A holds the ints zs. -/
def Ints (w : World) (G : Nat → Prop) (A : Option Addr) (zs : List Int) : Prop :=
  0 < zs.length → ∃ b off, A = some ⟨b, off, none⟩ ∧ G b ∧ ∀ j (hj : j < zs.length), w.cell? ⟨b, off + j, none⟩ = some (.int .i64 zs[j])
theorem trod_ints {fuel : Nat} {cs : List Value} {x : DataW H × List MemPlace} (hf : DataW.trod enc Try.prog W 0 (fun _ => true) true fuel 40 cs = some x) :
    ∃ A zs cap, cs = [.slice A zs.length cap] ∧ Ints W (· < W.heap.size) A zs ∧ zs.length ≤ 9223372036854775807 ∧ ∀ n ∈ zs, (Lit.int .i64 n).wf = true := by
  rcases open_ints Try.underlying40 Try.underlying3 (by kernel_rfl) hf with ⟨hcs, _⟩ | ⟨x, len, cap, zs, hcs, _, hl, hm, hz, _, hcell, hwz⟩
  · exact ⟨none, [], 0, by simpa using hcs, fun h => absurd h (by decide), by simp, by simp⟩
  · have hz' : zs.length = cap := by simpa using hz
    have hlen : (zs.take len).length = len := by rw [List.length_take]; omega
    unfold maxLen at hm
    refine ⟨some x, zs.take len, cap, by rw [hlen]; exact hcs, fun h0 => ?_, by omega, fun n hn => hwz n (List.mem_of_mem_take hn)⟩
    rw [hlen] at h0
    obtain ⟨b, off, spot⟩ := x
    have hc0 := hcell 0 (by omega)
    have hspot : spot = none := by simpa [Addr.add] using World.cell?_spot hc0
    subst hspot
    refine ⟨b, off, rfl, ?_, fun j hj => ?_⟩
    · have := block_lt_of_cell hc0
      rwa [add_plain] at this
    · rw [hlen] at hj
      have hcj := hcell j (by omega)
      rw [add_plain] at hcj
      rw [hcj]
      have hj' : j < zs.length := by omega
      simp [hj']
theorem Ints.below {w w' : World} {A : Option Addr} {zs : List Int} (h : Ints w (· < w.heap.size) A zs) {w0 : World} (h0 : w0 = w) (hb : Below w0.heap.size w0 w') : Ints w' (· < w0.heap.size) A zs := fun hl => by
  subst h0
  obtain ⟨b, off, e, hB, hc⟩ := h hl
  exact ⟨b, off, e, hB, fun j hj => (hb.cell (p := ⟨b, off + j, none⟩) hB).trans (hc j hj)⟩
/-- A call to be made. -/
structure ActD where
  kind : Int
  i : Int
  n : Int
  data : List UInt8
  keep : List Bool
structure ActAt (w : World) (G : Nat → Prop) (b o : Nat) (x : ActD) (Ad Ak : Option Addr) (cd ck : Nat) : Prop where
  c0 : w.cell? ⟨b, o, none⟩ = some (.int .i64 x.kind)
  c1 : w.cell? ⟨b, o + 1, none⟩ = some (.int .i64 x.i)
  c2 : w.cell? ⟨b, o + 2, none⟩ = some (.int .i64 x.n)
  c3 : w.cell? ⟨b, o + 3, none⟩ = some (.slice Ad x.data.length cd)
  c4 : w.cell? ⟨b, o + 4, none⟩ = some (.slice Ak x.keep.length ck)
  hd : Bts w G Ad x.data
  hk : Bls w G Ak x.keep
  wi : (Lit.int .i64 x.i).wf = true
  wn : (Lit.int .i64 x.n).wf = true
  ld : x.data.length ≤ 9223372036854775807
  lk : x.keep.length ≤ 9223372036854775807
  nd : Ad = none → cd = 0
  nk : Ak = none → ck = 0
  dc : x.data.length ≤ cd
  kc : x.keep.length ≤ ck
def Acts (w : World) (G : Nat → Prop) (A : Option Addr) (l : List ActD) : Prop :=
  0 < l.length → ∃ b off, A = some ⟨b, off, none⟩ ∧ G b ∧ ∀ j (hj : j < l.length), ∃ Ad Ak cd ck, ActAt w G b (off + j * 5) l[j] Ad Ak cd ck
theorem ActAt.below {w w' : World} {b o : Nat} {x : ActD} {Ad Ak : Option Addr} {cd ck : Nat} (h : ActAt w (· < w.heap.size) b o x Ad Ak cd ck) (hB : b < w.heap.size) (hb : Below w.heap.size w w') : ActAt w' (· < w.heap.size) b o x Ad Ak cd ck := by
  have e : ∀ j, w'.cell? ⟨b, j, none⟩ = w.cell? ⟨b, j, none⟩ := fun j => hb.cell (p := ⟨b, j, none⟩) hB
  refine ⟨(e _).trans h.c0, (e _).trans h.c1, (e _).trans h.c2, (e _).trans h.c3, (e _).trans h.c4, h.hd.kept (fun k hk => hb.block k hk), fun hl => ?_, h.wi, h.wn, h.ld, h.lk, h.nd, h.nk, h.dc, h.kc⟩
  obtain ⟨b', off, e', hB', hc⟩ := h.hk hl
  exact ⟨b', off, e', hB', fun j hj => (hb.cell (p := ⟨b', off + j, none⟩) hB').trans (hc j hj)⟩
theorem Acts.below {w w' : World} {A : Option Addr} {l : List ActD} (h : Acts w (· < w.heap.size) A l) (hb : Below w.heap.size w w') : Acts w' (· < w.heap.size) A l := fun hl => by
  obtain ⟨b, off, e, hB, hc⟩ := h hl
  exact ⟨b, off, e, hB, fun j hj => by
    obtain ⟨Ad, Ak, cd, ck, h⟩ := hc j hj
    exact ⟨Ad, Ak, cd, ck, h.below hB hb⟩⟩
theorem fields37 : (match Try.prog.underlying 37 with | some (.struct fs) => some (fs.toList.map fun f => (f.offset, f.type)) | _ => none) = some [(0, 3), (1, 3), (2, 3), (3, 34), (4, 35)] := by kernel_rfl
theorem cells37 : Try.prog.cellsOf 37 = 5 := by kernel_rfl
instance : Inhabited ActD := ⟨⟨0, 0, 0, [], []⟩⟩
theorem cells5 {a : Addr} {cs : List Value} (h : W.cells? 0 a 5 = some cs) : ∃ v0 v1 v2 v3 v4, cs = [v0, v1, v2, v3, v4] ∧ W.cell? (a.add 0) = some v0 ∧ W.cell? (a.add 1) = some v1 ∧ W.cell? (a.add 2) = some v2 ∧ W.cell? (a.add 3) = some v3 ∧ W.cell? (a.add 4) = some v4 := by
  simp only [World.cells?, Nat.zero_le, if_true, show List.range 5 = [0, 1, 2, 3, 4] from rfl, List.mapM_cons, List.mapM_nil] at h
  simp only [Option.bind_eq_bind, Option.bind_eq_some_iff, Option.pure_def, Option.some.injEq] at h
  obtain ⟨v0, h0, _, ⟨v1, h1, _, ⟨v2, h2, _, ⟨v3, h3, _, ⟨v4, h4, _, rfl, rfl⟩, rfl⟩, rfl⟩, rfl⟩, rfl⟩ := h
  exact ⟨v0, v1, v2, v3, v4, rfl, h0, h1, h2, h3, h4⟩
theorem trod_acts {fuel : Nat} {cs : List Value} {x : DataW H × List MemPlace} (hf : DataW.trod enc Try.prog W 0 (fun _ => true) true fuel 22 cs = some x) :
    ∃ A l cap, cs = [.slice A l.length cap] ∧ Acts W (· < W.heap.size) A l ∧ l.length ≤ 9223372036854775807 := by
  rcases Deep.open_slice Try.underlying22 hf with ⟨hcs, _⟩ | ⟨x, len, cap, m, n, D, Pl, hcs, _, hl, hm, hmm, _, hx⟩
  · exact ⟨none, [], 0, by simpa using hcs, fun h => absurd h (by decide), by simp⟩
  · simp only [if_true] at hmm
    subst hmm
    rw [cells37] at hx
    obtain ⟨fs, hu⟩ : ∃ fs, Try.prog.underlying 37 = some (.struct fs) := by
      have := fields37
      cases hq : Try.prog.underlying 37 with
      | none => rw [hq] at this; cases this
      | some d => cases d <;> first | exact ⟨_, rfl⟩ | (rw [hq] at this; cases this)
    have hfs := fields37
    rw [hu] at hfs
    simp only [Option.some.injEq] at hfs
    have hfield : ∀ (i o ty : Nat), ([(0, 3), (1, 3), (2, 3), (3, 34), (4, 35)] : List (Nat × Nat))[i]? = some (o, ty) → ∃ f, fs[i]? = some f ∧ f.offset = o ∧ f.type = ty := fun i o ty h => by
      rw [← hfs, List.getElem?_map] at h
      obtain ⟨f, h1, h2⟩ := Option.map_eq_some_iff.1 h
      exact ⟨f, by simpa using h1, by injection h2, by injection h2⟩
    have key : ∀ i, i < len → ∃ X : ActD, ∃ Ad Ak cd ck, ∀ b off, x = ⟨b, off, none⟩ → ActAt W (· < W.heap.size) b (off + i * 5) X Ad Ak cd ck := fun i hi => by
      obtain ⟨cs', h1, h2⟩ := hx i (by omega)
      obtain ⟨v0, v1, v2, v3, v4, rfl, g0, g1, g2, g3, g4⟩ := cells5 h1
      obtain ⟨xs, n', _, _, _, hxl, hff⟩ := DataW.trod_struct hu h2
      obtain ⟨f0, e0, o0, t0⟩ := hfield 0 0 3 rfl
      obtain ⟨f1, e1, o1, t1⟩ := hfield 1 1 3 rfl
      obtain ⟨f2, e2, o2, t2⟩ := hfield 2 2 3 rfl
      obtain ⟨f3, e3, o3, t3⟩ := hfield 3 3 34 rfl
      obtain ⟨f4, e4, o4, t4⟩ := hfield 4 4 35 rfl
      have hsz : xs.length = 5 := by
        rw [hxl]
        have := congrArg List.length hfs
        simpa using this
      have k0 := hff 0 f0 e0
      have k1 := hff 1 f1 e1
      have k2 := hff 2 f2 e2
      have k3 := hff 3 f3 e3
      have k4 := hff 4 f4 e4
      rw [o0, t0, show Try.prog.cellsOf 3 = 1 by kernel_rfl, List.getElem?_eq_getElem (by omega)] at k0
      rw [o1, t1, show Try.prog.cellsOf 3 = 1 by kernel_rfl, List.getElem?_eq_getElem (by omega)] at k1
      rw [o2, t2, show Try.prog.cellsOf 3 = 1 by kernel_rfl, List.getElem?_eq_getElem (by omega)] at k2
      rw [o3, t3, show Try.prog.cellsOf 34 = 1 by kernel_rfl, List.getElem?_eq_getElem (by omega)] at k3
      rw [o4, t4, show Try.prog.cellsOf 35 = 1 by kernel_rfl, List.getElem?_eq_getElem (by omega)] at k4
      simp only [List.drop_zero, List.drop_succ_cons, List.take_succ_cons, List.take_zero] at k0 k1 k2 k3 k4
      obtain ⟨z0, y0, _, q0⟩ := DataW.trod_int Try.underlying3 k0
      obtain ⟨z1, y1, _, q1⟩ := DataW.trod_int Try.underlying3 k1
      obtain ⟨z2, y2, _, q2⟩ := DataW.trod_int Try.underlying3 k2
      obtain ⟨Ad, ld, cd, y3, b3, q3, d3, nd⟩ := trod_bytes k3
      obtain ⟨Ak, lk, ck, y4, b4, q4, d4, nk⟩ := trod_bools k4
      simp only [List.cons.injEq, and_true] at y0 y1 y2 y3 y4
      subst y0 y1 y2 y3 y4
      refine ⟨⟨z0, z1, z2, ld, lk⟩, Ad, Ak, cd, ck, fun b off e => ?_⟩
      subst e
      rw [add_plain, add_plain] at g0 g1 g2 g3 g4
      exact ⟨g0, g1, g2, g3, g4, b3, b4, q1, q2, q3, q4, nd, nk, d3, d4⟩
    obtain ⟨F, hF⟩ := Deep.choose_lt (α := ActD) (p := fun i X => ∃ Ad Ak cd ck, ∀ b off, x = ⟨b, off, none⟩ → ActAt W (· < W.heap.size) b (off + i * 5) X Ad Ak cd ck) key
    have hlen : ((List.range len).map F).length = len := by simp
    unfold maxLen at hm
    refine ⟨some x, (List.range len).map F, _, by rw [hlen]; exact hcs, fun h0 => ?_, by omega⟩
    rw [hlen] at h0
    obtain ⟨b, off, spot⟩ := x
    have hspot : spot = none ∧ b < W.heap.size := by
      obtain ⟨cs', h1, _⟩ := hx 0 (by omega)
      obtain ⟨v0, _, _, _, _, _, g0, _⟩ := cells5 h1
      exact ⟨by simpa [Addr.add] using World.cell?_spot g0, by have := block_lt_of_cell g0; simpa [Addr.add] using this⟩
    obtain ⟨rfl, hB⟩ := hspot
    refine ⟨b, off, rfl, hB, fun j hj => ?_⟩
    rw [hlen] at hj
    obtain ⟨Ad, Ak, cd, ck, h⟩ := hF j hj
    refine ⟨Ad, Ak, cd, ck, ?_⟩
    simp only [List.getElem_map, List.getElem_range]
    exact h b off rfl
end Dk
end Go.Proofs.Ytngpdjkeoodigaa
