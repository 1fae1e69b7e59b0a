/- An act handed in by value. -/
import Derived.Test.YtogkaoiiddhdbaaTxa
import Derived.Deep.DeepCutAuto
namespace Go.Proofs.Ytogkaoiiddhdbaa
open Go.ChangeShapes Go.WideShapes Go.ChangeAt Go.RowKit
set_option linter.unusedVariables false

namespace Dk
section
variable {H : Type} {enc : TypeId × Value → H} {W : World}
structure ActIn (w : World) (G : Nat → Prop) (x : ActD) (Ad Ak : Option Addr) (cd ck : Nat) : Prop where
  hd : Bts w G Ad x.data
  hk : Bls w G Ak x.keep
  wk : (Lit.int .i64 x.kind).wf = true
  wi : (Lit.int .i64 x.i).wf = true
  wn : (Lit.int .i64 x.n).wf = true
  ws : (Lit.int .i64 x.size).wf = true
  wm : (Lit.int .u8 x.mask).wf = true
  ld : x.data.length ≤ 9223372036854775807
  lk : x.keep.length ≤ 9223372036854775807
  nd : Ad = none → cd = 0
  nk : Ak = none → ck = 0
  dc : x.data.length ≤ cd
  kc : x.keep.length ≤ ck
set_option maxRecDepth 20000 in
theorem open_act {r : Reach} {b0 : Nat} {v : Value} {d : DataW H} {p : List MemPlace} (hv : Value.okWide Try.prog W r b0 43 v) (h : DataW.Trod enc Try.prog W 0 (fun _ => true) true 43 v d p) :
    ∃ x : ActD, ∃ Ad Ak cd ck, v = Wl.av x Ad Ak cd ck ∧ ActIn W (· < W.heap.size) x Ad Ak cd ck := by
  obtain ⟨fs, hu⟩ : ∃ fs, Try.prog.underlying 43 = some (.struct fs) := by
    have := fields_act
    cases hq : Try.prog.underlying 43 with
    | none => rw [hq] at this; cases this
    | some d => cases d <;> first | exact ⟨_, rfl⟩ | (rw [hq] at this; cases this)
  have hfs := fields_act
  rw [hu] at hfs
  simp only [Option.some.injEq] at hfs
  have hfield : ∀ (i o ty : Nat), ([(0, 3), (1, 3), (2, 3), (3, 3), (4, 40), (5, 41), (6, 5)] : List (Nat × Nat))[i]? = some (o, ty) → ∃ f, fs[i]? = some f ∧ f.offset = o ∧ f.type = ty := fun i o ty h => by
    rw [← hfs, List.getElem?_map] at h
    obtain ⟨f, h1, h2⟩ := Option.map_eq_some_iff.1 h
    exact ⟨f, by simpa using h1, by injection h2, by injection h2⟩
  obtain ⟨cs, rfl, hsz0⟩ := okWide_struct hu hv
  obtain ⟨l⟩ := cs
  have h7 := hsz0.trans cells_act
  simp only [List.size_toArray] at h7
  match l, h7 with
  | [v0, v1, v2, v3, v4, v5, v6], _ =>
    obtain ⟨fuel, h2⟩ := h
    obtain ⟨xs, n', _, _, _, hxl, hff⟩ := DataW.trod_struct hu h2
    obtain ⟨f0, e0, o0, t0⟩ := hfield 0 0 3 rfl
    obtain ⟨f1, e1, o1, t1⟩ := hfield 1 1 3 rfl
    obtain ⟨f2, e2, o2, t2⟩ := hfield 2 2 3 rfl
    obtain ⟨f3, e3, o3, t3⟩ := hfield 3 3 3 rfl
    obtain ⟨f4, e4, o4, t4⟩ := hfield 4 4 40 rfl
    obtain ⟨f5, e5, o5, t5⟩ := hfield 5 5 41 rfl
    obtain ⟨f6, e6, o6, t6⟩ := hfield 6 6 5 rfl
    have hsz : xs.length = 7 := by
      rw [hxl]
      have := congrArg List.length hfs
      simpa using this
    have k0 := hff 0 f0 e0
    have k1 := hff 1 f1 e1
    have k2 := hff 2 f2 e2
    have k3 := hff 3 f3 e3
    have k4 := hff 4 f4 e4
    have k5 := hff 5 f5 e5
    have k6 := hff 6 f6 e6
    rw [o0, t0, show Try.prog.cellsOf 3 = 1 by kernel_rfl, List.getElem?_eq_getElem (by omega)] at k0
    rw [o1, t1, show Try.prog.cellsOf 3 = 1 by kernel_rfl, List.getElem?_eq_getElem (by omega)] at k1
    rw [o2, t2, show Try.prog.cellsOf 3 = 1 by kernel_rfl, List.getElem?_eq_getElem (by omega)] at k2
    rw [o3, t3, show Try.prog.cellsOf 3 = 1 by kernel_rfl, List.getElem?_eq_getElem (by omega)] at k3
    rw [o4, t4, show Try.prog.cellsOf 40 = 1 by kernel_rfl, List.getElem?_eq_getElem (by omega)] at k4
    rw [o5, t5, show Try.prog.cellsOf 41 = 1 by kernel_rfl, List.getElem?_eq_getElem (by omega)] at k5
    rw [o6, t6, show Try.prog.cellsOf 5 = 1 by kernel_rfl, List.getElem?_eq_getElem (by omega)] at k6
    simp only [Value.cells, List.drop_zero, List.drop_succ_cons, List.take_succ_cons, List.take_zero] at k0 k1 k2 k3 k4 k5 k6
    obtain ⟨z0, y0, _, q0⟩ := DataW.trod_int Try.underlying3 k0
    obtain ⟨z1, y1, _, q1⟩ := DataW.trod_int Try.underlying3 k1
    obtain ⟨z2, y2, _, q2⟩ := DataW.trod_int Try.underlying3 k2
    obtain ⟨z3, y3, _, q3⟩ := DataW.trod_int Try.underlying3 k3
    obtain ⟨Ad, ld, cd, y4, b4, q4, d4, nd⟩ := trod_bytes k4
    obtain ⟨Ak, lk, ck, y5, b5, q5, d5, nk⟩ := trod_bools k5
    obtain ⟨z6, y6, _, q6⟩ := DataW.trod_int Try.underlying5 k6
    simp only [List.cons.injEq, and_true] at y0 y1 y2 y3 y4 y5 y6
    subst y0 y1 y2 y3 y4 y5 y6
    exact ⟨⟨z0, z1, z2, z3, ld, lk, z6⟩, Ad, Ak, cd, ck, rfl, ⟨b4, b5, q0, q1, q2, q3, q6, q4, q5, nd, nk, d4, d5⟩⟩
end
end Dk
end Go.Proofs.Ytogkaoiiddhdbaa
