/- Contract of play; the reach of a script that came in. -/
import Derived.Test.YtngpdjkeoodigaaPlay0
import Derived.Test.YtngpdjkeoodigaaPlay1
import Derived.Test.YtngpdjkeoodigaaPlay2
import Derived.Test.YtngpdjkeoodigaaPlay3
import Derived.Test.YtngpdjkeoodigaaPlay4
import Derived.Test.YtngpdjkeoodigaaPlay5
import Derived.Test.YtngpdjkeoodigaaPlay6
import Derived.Test.YtngpdjkeoodigaaPlay7
import Derived.Test.YtngpdjkeoodigaaPlay8
import Derived.Test.YtngpdjkeoodigaaPlayD
import Derived.SizedLaws
namespace Go.Proofs.Ytngpdjkeoodigaa
open Go.ChangeShapes Go.WideShapes Go.ChangeAt Go.RowKit

theorem play_any (w0 w : World) (p : Nat) (s : Dk.S) (r : Dk.R) (sv wv : Value) (x : Dk.ActD) (Ad Ak : Option Addr) (cd ck : Nat) (h : Dk.Pre w0 w p s r sv wv x Ad Ak) :
    Calls Try.prog 11 #[.pointer (some ⟨p, 0, none⟩), Dk.rv r sv wv, Dk.av x Ad Ak cd ck] w (Dk.Post w0 w r) := by
  rcases (show x.kind = 0 ∨ x.kind = 1 ∨ x.kind = 2 ∨ x.kind = 3 ∨ x.kind = 4 ∨ x.kind = 5 ∨ x.kind = 6 ∨ x.kind = 7 ∨ x.kind = 8 ∨ ¬ (0 ≤ x.kind ∧ x.kind ≤ 8) by omega) with hk | hk | hk | hk | hk | hk | hk | hk | hk | hk
  · exact play_0 w0 w p s r sv wv x Ad Ak cd ck h hk
  · exact play_1 w0 w p s r sv wv x Ad Ak cd ck h hk
  · exact play_2 w0 w p s r sv wv x Ad Ak cd ck h hk
  · exact play_3 w0 w p s r sv wv x Ad Ak cd ck h hk
  · exact play_4 w0 w p s r sv wv x Ad Ak cd ck h hk
  · exact play_5 w0 w p s r sv wv x Ad Ak cd ck h hk
  · exact play_6 w0 w p s r sv wv x Ad Ak cd ck h hk
  · exact play_7 w0 w p s r sv wv x Ad Ak cd ck h hk
  · exact play_8 w0 w p s r sv wv x Ad Ak cd ck h hk
  · exact play_else w0 w p s r sv wv x Ad Ak cd ck h hk
namespace Dk
theorem u37 : Try.prog.underlying 37 = some (((Try.prog.underlying 37).getD .bool)) := by kernel_rfl
theorem i37 : (Try.prog.info? 37).map (·.size) = some 5 := by kernel_rfl
theorem ActAt.range {w : World} {G : Nat → Prop} {b o : Nat} {x : ActD} {Ad Ak : Option Addr} {cd ck : Nat} (h : ActAt w G b o x Ad Ak cd ck) : w.rangeAt b o (ac x Ad Ak cd ck) := fun j v hv => by
  match j, hv with
  | 0, hv => injection hv with hv; subst hv; exact h.c0
  | 1, hv => injection hv with hv; subst hv; exact h.c1
  | 2, hv => injection hv with hv; subst hv; exact h.c2
  | 3, hv => injection hv with hv; subst hv; exact h.c3
  | 4, hv => injection hv with hv; subst hv; exact h.c4
section
variable {H : Type} {enc : TypeId × Value → H} {W : World}
theorem mem_all {P : Program} {e : TypeId} {d : DataW H} {n : Nat} (hn : n ∈ d.weights P e) : ∀ {l : List (DataW H)}, d ∈ l → n ∈ DataW.weightsAll P e l
  | [], h => by cases h
  | y :: r, h => by
    simp only [DataW.weightsAll, List.mem_append]
    rcases List.mem_cons.1 h with rfl | h
    · exact .inl hn
    · exact .inr (mem_all hn h)
/-- A slice's length is within the reach of what it weighs. -/
theorem reach_slice {t e : TypeId} {fuel : Nat} {A : Option Addr} {n c : Nat} {y : DataW H × List MemPlace} (hu : Try.prog.underlying t = some (.slice e)) (hb : Try.prog.bytesOf e = 1) (hf : DataW.trod enc Try.prog W 0 (fun _ => true) true fuel t [.slice A n c] = some y) (hw : ∀ k ∈ y.1.weights Try.prog t, k ≤ reachBytes) : n ≤ 140737488355328 := by
  rcases Deep.open_slice hu hf with ⟨hcs, _⟩ | ⟨x, len, cap, m, n', D, Pl, hcs, _, hl, hm, hmm, rfl, hx⟩
  · simp only [List.cons.injEq, Value.slice.injEq, and_true] at hcs
    omega
  · simp only [List.cons.injEq, Value.slice.injEq, and_true] at hcs
    have := hw _ (by simp only [DataW.weights, hu]; exact List.mem_cons_self)
    simp only [List.length_map, List.length_range, hb, reachBytes] at this
    omega
theorem reach_acts {fuel : Nat} {A : Option Addr} {l : List ActD} {c : Nat} {y : DataW H × List MemPlace} (hf : DataW.trod enc Try.prog W 0 (fun _ => true) true fuel 22 [.slice A l.length c] = some y) (hw : ∀ k ∈ y.1.weights Try.prog 22, k ≤ reachBytes) (hA : Acts W (· < W.heap.size) A l) :
    ∀ j (hj : j < l.length), l[j].data.length ≤ 140737488355328 ∧ l[j].keep.length ≤ 140737488355328 := fun j hj => by
  obtain ⟨b, off, rfl, hB, hc⟩ := hA (by omega)
  obtain ⟨Ad, Ak, cd, ck, hat⟩ := hc j hj
  rcases Deep.open_slice Try.underlying22 hf with ⟨hcs, _⟩ | ⟨x, len, cap, m, n', D, Pl, hcs, _, hl, hm, hmm, rfl, hx⟩
  · simp only [List.cons.injEq, Value.slice.injEq, and_true] at hcs
    cases hcs.1
  · simp only [List.cons.injEq, Value.slice.injEq, and_true] at hcs
    obtain ⟨hx0, hlen, _⟩ := hcs
    injection hx0 with hx0
    subst hx0
    simp only [if_true] at hmm
    subst hmm
    rw [cells37] at hx
    obtain ⟨cs', h1, h2⟩ := hx j (by omega)
    obtain ⟨v0, v1, v2, v3, v4, rfl, g0, g1, g2, g3, g4⟩ := cells5 h1
    rw [add_plain, add_plain] at g3 g4
    have e3 : v3 = .slice Ad l[j].data.length cd := by have := g3.symm.trans hat.c3; injection this
    have e4 : v4 = .slice Ak l[j].keep.length ck := by have := g4.symm.trans hat.c4; injection this
    subst e3 e4
    obtain ⟨fs, hu⟩ : ∃ fs, Try.prog.underlying 37 = some (.struct fs) := by
      have := fields37
      cases hq : Try.prog.underlying 37 with
      | none => rw [hq] at this; cases this
      | some d => cases d <;> first | exact ⟨_, rfl⟩ | (rw [hq] at this; cases this)
    have hfs := fields37
    rw [hu] at hfs
    simp only [Option.some.injEq] at hfs
    have hfield : ∀ (i o ty : Nat), ([(0, 3), (1, 3), (2, 3), (3, 34), (4, 35)] : List (Nat × Nat))[i]? = some (o, ty) → ∃ f, fs[i]? = some f ∧ f.offset = o ∧ f.type = ty := fun i o ty h => by
      rw [← hfs, List.getElem?_map] at h
      obtain ⟨f, h1, h2⟩ := Option.map_eq_some_iff.1 h
      exact ⟨f, by simpa using h1, by injection h2, by injection h2⟩
    obtain ⟨xs, n2, _, hD, _, hxl, hff⟩ := DataW.trod_struct hu h2
    obtain ⟨f3, e3, o3, t3⟩ := hfield 3 3 34 rfl
    obtain ⟨f4, e4, o4, t4⟩ := hfield 4 4 35 rfl
    have hsz : xs.length = 5 := by
      rw [hxl]
      have := congrArg List.length hfs
      simpa using this
    have k3 := hff 3 f3 e3
    have k4 := hff 4 f4 e4
    rw [o3, t3, show Try.prog.cellsOf 34 = 1 by kernel_rfl, List.getElem?_eq_getElem (by omega)] at k3
    rw [o4, t4, show Try.prog.cellsOf 35 = 1 by kernel_rfl, List.getElem?_eq_getElem (by omega)] at k4
    simp only [List.drop_zero, List.drop_succ_cons, List.take_succ_cons, List.take_zero] at k3 k4
    have hDj : D j = .agg (xs.map (·.1)) := by injection hD
    have key : ∀ (i ty : Nat) (f : Field) (hi : i < xs.length), fs[i]? = some f → f.type = ty → ∀ k ∈ xs[i].1.weights Try.prog ty, k ≤ reachBytes := fun i ty f hi hfi hty k hk => by
      refine hw k ?_
      simp only [DataW.weights, Try.underlying22]
      refine List.mem_cons_of_mem _ (List.mem_append.2 (.inl (mem_all (d := D j) ?_ (List.mem_map.2 ⟨j, List.mem_range.2 (by omega), rfl⟩))))
      rw [hDj]
      simp only [DataW.weights, hu]
      refine DataW.weights_mem_each (j := i) (t := ty) (d := xs[i].1) ?_ ?_ k hk
      · rw [List.getElem?_map, Array.getElem?_toList, hfi]; simp [hty]
      · rw [List.getElem?_map, List.getElem?_eq_getElem hi]; rfl
    exact ⟨reach_slice Try.underlying34 (by kernel_rfl) k3 (key 3 34 f3 (by omega) e3 t3), reach_slice Try.underlying35 (by kernel_rfl) k4 (key 4 35 f4 (by omega) e4 t4)⟩
end
end Dk
end Go.Proofs.Ytngpdjkeoodigaa
