/- Flights in memory, one and many; laws on their rows. -/
import Derived.Test.YtmcekicaigbccaaGreatFlChk
import Derived.Test.YtmcekicaigbccaaGreatRw
import Derived.OwnWalk
import Derived.Maps.AppendAt
namespace Go.Proofs.YtmcekicaigbccaaGreat
open Go.RowKit
set_option linter.unusedVariables false

namespace Fl
/-- Classes as cells. -/
def cc (l : List (Int × Int)) : List Value := l.flatMap fun p => [.int .u8 p.1, .int .i64 p.2]
theorem cc_nil : cc [] = [] := rfl
theorem cc_cons (p : Int × Int) (l : List (Int × Int)) : cc (p :: l) = .int .u8 p.1 :: .int .i64 p.2 :: cc l := rfl
theorem cc_len : ∀ l : List (Int × Int), (cc l).length = l.length * 2
  | [] => rfl
  | p :: l => by rw [cc_cons, List.length_cons, List.length_cons, cc_len l, List.length_cons]; omega
theorem cc_get : ∀ (l : List (Int × Int)) (j : Nat) (hj : j < l.length), (cc l)[j * 2]? = some (.int .u8 l[j].1) ∧ (cc l)[j * 2 + 1]? = some (.int .i64 l[j].2)
  | p :: l, 0, _ => ⟨rfl, rfl⟩
  | p :: l, j + 1, hj => by
    have h := cc_get l j (by simpa using hj)
    rw [cc_cons, show (j + 1) * 2 = j * 2 + 2 by omega, show j * 2 + 2 + 1 = (j * 2 + 1) + 2 by omega]
    simpa using h
theorem cc_one (l : List (Int × Int)) : ∀ u ∈ cc l, u.oneCell' = true := by
  intro u hu
  obtain ⟨p, _, h⟩ := List.mem_flatMap.1 hu
  simp at h
  rcases h with rfl | rfl <;> rfl
/-- Classes in one new block. -/
def CNew (w : World) (B0 B : Nat) (A : Option Addr) (l : List (Int × Int)) : Prop :=
  0 < l.length → ∃ b cur, A = some ⟨b, 0, none⟩ ∧ B0 ≤ b ∧ b < B ∧ w.heap[b]? = some (.cells cur 59 (0, 0)) ∧ cur.toList.take (l.length * 2) = cc l
theorem CNew.cls {w : World} {B0 B : Nat} {A : Option Addr} {l : List (Int × Int)} (h : CNew w B0 B A l) : Cls w B A l := fun hl => by
  obtain ⟨b, cur, e, _, hB, hh, htk⟩ := h hl
  refine ⟨b, 0, e, hB, fun j hj => ?_⟩
  obtain ⟨g1, g2⟩ := cc_get l j hj
  rw [← htk, List.getElem?_take_of_lt (by omega)] at g1 g2
  rw [show 0 + j * 2 = j * 2 by omega]
  exact ⟨(cell_of_row _ _ _ _ _ _ hh).trans (by simpa using g1), (cell_of_row _ _ _ _ _ _ hh).trans (by simpa using g2)⟩
theorem CNew.kept {w w' : World} {B0 B : Nat} {A : Option Addr} {l : List (Int × Int)} (h : CNew w B0 B A l) (hb : ∀ k cur, B0 ≤ k → k < B → w.heap[k]? = some (.cells cur 59 (0, 0)) → w'.heap[k]? = w.heap[k]?) : CNew w' B0 B A l := fun hl => by
  obtain ⟨b, cur, e, h0, hB, hh, htk⟩ := h hl
  exact ⟨b, cur, e, h0, hB, (hb b cur h0 hB hh).trans hh, htk⟩
theorem CNew.below {w w' : World} {B0 B : Nat} {A : Option Addr} {l : List (Int × Int)} (h : CNew w B0 B A l) (hb : Below B w w') : CNew w' B0 B A l := h.kept fun k _ _ hk _ => hb.block k hk
theorem CNew.more {w : World} {B0 B B0' B' : Nat} {A : Option Addr} {l : List (Int × Int)} (h : CNew w B0 B A l) (h0 : B0' ≤ B0) (hB : B ≤ B') : CNew w B0' B' A l := fun hl => by
  obtain ⟨b, cur, e, h1, h2, hc⟩ := h hl
  exact ⟨b, cur, e, by omega, by omega, hc⟩
theorem Cls.cells {w : World} {B b off : Nat} {A : Option Addr} {l : List (Int × Int)} (h : Cls w B A l) (e : A = some ⟨b, off, none⟩) : ∀ j u, (cc l)[j]? = some u → w.cell? ⟨b, off + j, none⟩ = some u := fun j u hu => by
  have hj : j < l.length * 2 := by rw [← cc_len]; exact (List.getElem?_eq_some_iff.1 hu).1
  obtain ⟨b', off', e', _, hc⟩ := h (by omega)
  rw [e] at e'
  injection e' with e'
  injection e' with e1 e2 e3
  subst e1 e2
  obtain ⟨g1, g2⟩ := cc_get l (j / 2) (by omega)
  obtain ⟨k1, k2⟩ := hc (j / 2) (by omega)
  rcases (show j = j / 2 * 2 ∨ j = j / 2 * 2 + 1 by omega) with hq | hq
  · rw [hq] at hu ⊢
    rw [g1] at hu
    injection hu with hu
    subst hu
    exact k1
  · rw [hq] at hu ⊢
    rw [g2] at hu
    injection hu with hu
    subst hu
    exact k2
end Fl
namespace Fl
theorem uF : Tryz.prog.underlying 62 = some ((Tryz.prog.underlying 62).getD .bool) := by kernel_rfl
theorem rF : ((Tryz.prog.underlying 62).getD .bool).isRow = true := by kernel_rfl
theorem iF : (Tryz.prog.info? 62).map (·.size) = some 9 := by kernel_rfl
theorem iC : (Tryz.prog.info? 60).map (·.size) = some 1 := by kernel_rfl
def r0 : R := ⟨default, none, 0⟩
theorem zF (w : World) : (zeroValue 62).run Tryz.prog w = .ok (.agg (enc r0).toArray) w := by kernel_rfl
theorem enc_set (f : F) (A A' : Option Addr) (c c' : Nat) : (enc ⟨f, A, c⟩).set 7 (.slice A' f.cls.length c') = enc ⟨f, A', c'⟩ := rfl
end Fl
namespace Fl
/-- A slice of flights. -/
structure Fls (w : World) (B : Nat) (A : Option Addr) (rs : List R) : Prop where
  row : 0 < rs.length → ∃ b off, A = some ⟨b, off, none⟩ ∧ b < B ∧ ∀ j (hj : j < rs.length), w.rangeAt b (off + j * 9) (enc rs[j])
  cls : ∀ r ∈ rs, Cls w B r.A r.f.cls
  wf : ∀ r ∈ rs, Wf r
theorem Fls.below {w w' : World} {B B' : Nat} {A : Option Addr} {rs : List R} (h : Fls w B A rs) (hb : Below B' w w') (hB : B ≤ B') : Fls w' B A rs where
  row hl := by
    obtain ⟨b, off, e, hb', hc⟩ := h.row hl
    exact ⟨b, off, e, hb', fun j hj i v hv => (hb.cell (p := ⟨b, _, none⟩) (show b < B' by omega)).trans (hc j hj i v hv)⟩
  cls r hr := (h.cls r hr).below hb hB
  wf := h.wf
def flat (rs : List R) : List Value := rs.flatMap enc
theorem flat_len : ∀ rs : List R, (flat rs).length = rs.length * 9
  | [] => rfl
  | r :: rs => by rw [flat, List.flatMap_cons, List.length_append, enc_len, ← flat, flat_len rs, List.length_cons]; omega
theorem flat_append (a b : List R) : flat (a ++ b) = flat a ++ flat b := by unfold flat; exact List.flatMap_append
theorem flat_one (r : R) : flat [r] = enc r := by simp [flat]
theorem flat_get : ∀ (rs : List R) (j : Nat) (hj : j < rs.length) (i : Nat) (hi : i < 9), (flat rs)[j * 9 + i]? = (enc rs[j])[i]?
  | r :: rs, 0, _, i, hi => by
    rw [flat, List.flatMap_cons, Nat.zero_mul, Nat.zero_add, List.getElem?_append_left (by rw [enc_len]; exact hi)]
    rfl
  | r :: rs, j + 1, hj, i, hi => by
    rw [flat, List.flatMap_cons, List.getElem?_append_right (by rw [enc_len]; omega), enc_len, ← flat, show (j + 1) * 9 + i - 9 = j * 9 + i by omega, flat_get rs j (by simpa using hj) i hi]
    rfl
/-- A slice of flights of the call's own. -/
structure Own (w : World) (base : Nat) (v : Value) (rs : List R) : Prop where
  row : w.ownsRow base 62 9 v rs.length (flat rs)
  cls : ∀ r ∈ rs, CNew w base w.heap.size r.A r.f.cls
  wf : ∀ r ∈ rs, Wf r
theorem Own.fls {w : World} {base : Nat} {v : Value} {rs : List R} (h : Own w base v rs) : ∃ A cap, v = .slice A rs.length cap ∧ Fls w w.heap.size A rs := by
  obtain ⟨_, ⟨hv, h0⟩ | ⟨g, cap, cur, hv, hg, hh, hcap, _, hsz, htk⟩⟩ := h.row
  · have := List.eq_nil_of_length_eq_zero h0
    subst this
    exact ⟨none, 0, hv, ⟨fun h => absurd h (by decide), by simp, by simp⟩⟩
  · refine ⟨some ⟨g, 0, none⟩, cap, hv, ⟨fun hl => ⟨g, 0, rfl, Rw.lt_of_some hh, fun j hj i x hx => ?_⟩, fun r hr => (h.cls r hr).cls, h.wf⟩⟩
    have hi : i < 9 := by have := (List.getElem?_eq_some_iff.1 hx).1; rwa [enc_len] at this
    have hq := flat_get rs j hj i hi
    rw [← htk, List.getElem?_take_of_lt (by omega), hx] at hq
    rw [cell_of_row _ _ _ _ _ _ hh, show 0 + j * 9 + i = j * 9 + i by omega]
    simpa using hq
theorem Own.below {w w' : World} {base : Nat} {v : Value} {rs : List R} (h : Own w base v rs) (hb : Below w.heap.size w w') : Own w' base v rs where
  row := by
    obtain ⟨h1, h2 | ⟨g, cap, cur, hv, hg, hh, h3⟩⟩ := h.row
    · exact ⟨h1, .inl h2⟩
    · exact ⟨h1, .inr ⟨g, cap, cur, hv, hg, (hb.block g (Rw.lt_of_some hh)).trans hh, h3⟩⟩
  cls r hr := ((h.cls r hr).below hb).more (Nat.le_refl _) hb.size
  wf := h.wf
end Fl
end Go.Proofs.YtmcekicaigbccaaGreat
