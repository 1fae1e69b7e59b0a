/- Contracts of byKey, and of the sort by it. -/
import Derived.Test.YtmcekicaigbccaaGreatFlOrd
import Derived.Deep.RegionWith
import Derived.Deep.RegionHeld3
import Derived.StillTailTactics
namespace Go.Proofs.YtmcekicaigbccaaGreat
open Go.RowKit Go.Sort Go.Shelf
set_option linter.unusedVariables false

/-- The first that is not 0. -/
def Fl.orI (x y : Int) : Int := if x = 0 then y else x
theorem or_any (b : Nat) (x y : Int) (w : World) (h0 : w.cell? ⟨b, 0, none⟩ = some (.int .i64 x)) (h1 : w.cell? ⟨b, 1, none⟩ = some (.int .i64 y)) :
    Calls Tryz.prog 75 #[.slice (some ⟨b, 0, none⟩) 2 2] w fun e w' => e = .returned (.int .i64 (Fl.orI x y)) ∧ w = w' := by
  unfold Fl.orI
  by_cases hx : x = 0
  · rw [if_pos hx]
    have hx2 : (x != 0) = false := by simp [hx]
    clear hx
    by_cases hy : y = 0
    · have hy2 : (y != 0) = false := by simp [hy]
      have HY := Lib.hid hy
      clear hy
      go_enter Tryz.func75, Tryz.ntmps75
      go_wp2
      refine wp_loop_rounds 3 ?_
      rw [rounds_succ]
      go_wp2
      rw [rounds_succ]
      go_wp2
      rw [rounds_succ]
      go_wp2
      go_ret
      exact ⟨by have := HY.out; subst this; rfl, rfl⟩
    · have hy2 : (y != 0) = true := by simp [hy]
      clear hy
      go_enter Tryz.func75, Tryz.ntmps75
      go_wp2
      refine wp_loop_rounds 2 ?_
      rw [rounds_succ]
      go_wp2
      rw [rounds_succ]
      go_wp2
      go_ret
      exact ⟨rfl, rfl⟩
  · rw [if_neg hx]
    have hx2 : (x != 0) = true := by simp [hx]
    clear hx
    go_enter Tryz.func75, Tryz.ntmps75
    go_wp2
    refine wp_loop_rounds 1 ?_
    rw [rounds_succ]
    go_wp2
    go_ret
    exact ⟨rfl, rfl⟩
theorem or_new (b : Nat) (x y : Int) (w : World) (hb : b = w.heap.size) :
    Calls Tryz.prog 75 #[.slice (some ⟨b, 0, none⟩) 2 2] (w.alloc (.cells #[.int .i64 x, .int .i64 y] 3)).drew fun e w' => e = .returned (.int .i64 (Fl.orI x y)) ∧ (w.alloc (.cells #[.int .i64 x, .int .i64 y] 3)).drew = w' := by
  subst hb
  have hh := heap_alloc_new w (.cells #[.int .i64 x, .int .i64 y] 3)
  exact or_any _ x y (w.alloc (.cells #[.int .i64 x, .int .i64 y] 3)).drew ((cell_of_row (w.alloc (.cells #[.int .i64 x, .int .i64 y] 3)) w.heap.size _ _ _ _ hh).trans rfl) ((cell_of_row (w.alloc (.cells #[.int .i64 x, .int .i64 y] 3)) w.heap.size _ _ _ _ hh).trans rfl)
namespace Fl
theorem two_new (W : World) (c d : Array Value) : ∀ w', Below ((W.alloc (.cells c 62)).alloc (.cells d 62)).heap.size ((W.alloc (.cells c 62)).alloc (.cells d 62)) w' →
    (∀ j, w'.cell? ⟨W.heap.size, j, none⟩ = c[j]?) ∧ (∀ j, w'.cell? ⟨W.heap.size + 1, j, none⟩ = d[j]?) := fun w' hb => by
  have z1 : (W.alloc (.cells c 62)).heap.size = W.heap.size + 1 := by simp
  have z2 : ((W.alloc (.cells c 62)).alloc (.cells d 62)).heap.size = W.heap.size + 2 := by simp
  refine ⟨fun j => ?_, fun j => ?_⟩
  · rw [hb.cell (p := ⟨W.heap.size, j, none⟩) (by show W.heap.size < _; omega)]
    have h1 := heap_alloc_new W (.cells c 62)
    have h2 : ((W.alloc (.cells c 62)).alloc (.cells d 62)).heap[W.heap.size]? = some (.cells c 62) := (Below.heap_alloc _ _ _ (by omega)).trans h1
    exact cell_of_row _ _ _ _ _ _ h2
  · rw [hb.cell (p := ⟨W.heap.size + 1, j, none⟩) (by show W.heap.size + 1 < _; omega)]
    have h1 := heap_alloc_new (W.alloc (.cells c 62)) (.cells d 62)
    rw [z1] at h1
    exact cell_of_row _ _ _ _ _ _ h1
end Fl
set_option maxHeartbeats 1000000 in
set_option maxRecDepth 20000 in
theorem byKey_any (r s : Fl.R) (W : World) : Calls Tryz.prog 51 #[Fl.fv r, Fl.fv s] W fun e w' => e = .returned (.int .i64 (Fl.cmpR r s)) ∧ ∃ q os', w' = Go.Sort.grow (W.drewN q) os' := by
  have HE : Hid (Fl.cmpR r s = Fl.orI (Fl.cmpS r.f.car s.f.car) (Fl.cmpI r.f.num s.f.num)) := show _ = _ by rfl
  generalize Fl.cmpR r s = res at *
  obtain ⟨⟨car, num, frm, to, days, dep, arr, cls, plan⟩, A, cap⟩ := r
  obtain ⟨⟨car2, num2, frm2, to2, days2, dep2, arr2, cls2, plan2⟩, A2, cap2⟩ := s
  unfold Fl.fv
  simp only at HE ⊢
  have H1 := Lib.hid (fun w => compare_s car car2 w)
  have H2 := Lib.hid (fun w => compare_i num num2 w)
  generalize Fl.cmpS car car2 = c1 at *
  generalize Fl.cmpI num num2 = c2 at *
  have HS : Hid (∀ w', Below ((W.alloc (.cells #[.string car, .int .i64 num, .string frm, .string to, .int .u8 days, .int .i64 dep, .int .i64 arr, .slice A cls.length cap, .int .i64 plan] 62)).alloc (.cells #[.string car2, .int .i64 num2, .string frm2, .string to2, .int .u8 days2, .int .i64 dep2, .int .i64 arr2, .slice A2 cls2.length cap2, .int .i64 plan2] 62)).heap.size ((W.alloc (.cells #[.string car, .int .i64 num, .string frm, .string to, .int .u8 days, .int .i64 dep, .int .i64 arr, .slice A cls.length cap, .int .i64 plan] 62)).alloc (.cells #[.string car2, .int .i64 num2, .string frm2, .string to2, .int .u8 days2, .int .i64 dep2, .int .i64 arr2, .slice A2 cls2.length cap2, .int .i64 plan2] 62)) w' →
      w'.cell? ⟨W.heap.size, 0, none⟩ = some (.string car) ∧ w'.cell? ⟨W.heap.size, 1, none⟩ = some (.int .i64 num) ∧ w'.cell? ⟨W.heap.size + 1, 0, none⟩ = some (.string car2) ∧ w'.cell? ⟨W.heap.size + 1, 1, none⟩ = some (.int .i64 num2)) := fun w' hb => by
    obtain ⟨h1, h2⟩ := Fl.two_new W _ _ w' hb
    exact ⟨(h1 0).trans rfl, (h1 1).trans rfl, (h2 0).trans rfl, (h2 1).trans rfl⟩
  go_enter Tryz.func51, Tryz.ntmps51
  go_wp2
  go_region_held3 (fun w' => w'.cell? ⟨W.heap.size, 0, none⟩ = some (.string car) ∧ w'.cell? ⟨W.heap.size, 1, none⟩ = some (.int .i64 num) ∧ w'.cell? ⟨W.heap.size + 1, 0, none⟩ = some (.string car2) ∧ w'.cell? ⟨W.heap.size + 1, 1, none⟩ = some (.int .i64 num2)) (first | exact HS.out _ (Below.refl _ _) | exact HS.out _ (Below.refl _ _).drew | exact HS.out _ ((Below.refl _ _).alloc (Nat.le_refl _) _).drew) (first
    | (go_at_call 76; refine (H1.out _).mono ?_; rintro e w' ⟨rfl, rfl⟩)
    | (go_at_call 77; refine (H2.out _).mono ?_; rintro e w' ⟨rfl, rfl⟩)
    | (go_at_call 75; refine (or_new _ c1 c2 _ (by simp)).mono ?_; rintro e w' ⟨rfl, rfl⟩))
  go_wp2
  go_ret
  exact ⟨by have := HE.out; subst this; rfl, 1, _, by rw [Go.Sort.alloc_eq_grow, Go.Sort.alloc_eq_grow, Go.Sort.alloc_eq_grow, Go.Sort.grow_grow, Go.Sort.grow_grow]; rfl⟩
theorem cmpLays (blk off size : Nat) (w : World) : Go.Proofs.CmpLays Tryz.prog 51 #[] Fl.enc 9 Fl.cmpR blk off size w :=
  fun _ _ _ _ r s => byKey_any r s _
theorem sortF_any (blk off cap : Nat) (d : Array Fl.R) (w : World) (hH : HoldsK Fl.enc 9 w blk off d) (hblk : blk < w.heap.size) (hsz : d.size < 4611686018427387904) :
    Calls Tryz.prog 50 #[.slice (some ⟨blk, off, none⟩) d.size cap, .func (.func 51) #[] #[]] w fun e w' => e = .returned (.tuple #[]) ∧ ∃ d' n os, Go.Sort.PermIn 0 d.size d d' ∧ Go.Sort.SortedIn (Go.Proofs.ltOf Fl.cmpR) 0 d.size d' ∧ w' = sortWorldK Fl.enc 9 w blk off n d' os := by
  have eg : ∀ args w, (callFunc 51 args).run Tryz.prog w = .ok (.enter 51 args) w := enters_of Tryz.func51 (by kernel_rfl) rfl
  exact Go.Proofs.AnyQ.slices_SortFunc Tryz.sortF 9 Tryz.isAgg62 Tryz.sizeOf62 Fl.enc Fl.enc_len Fl.enc_one Fl.cmpR Fl.swo 51 #[] blk off cap d w eg (cmpLays blk off d.size w) hH hblk hsz
end Go.Proofs.YtmcekicaigbccaaGreat
