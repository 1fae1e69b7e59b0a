/- The order of legs, and the sort by it. -/
import Derived.Test.YtfodabbmjggieaaGreatHdRow
import Derived.Test.YtfodabbmjggieaaGreatG2
namespace Go.Proofs.YtfodabbmjggieaaGreat
open Go.RowKit Go.Sort Go.Shelf
set_option linter.unusedVariables false

namespace Hd
def or3 (x y z : Int) : Int := if x = 0 then (if y = 0 then z else y) else x
def cmpL (a b : L) : Int := or3 (Fl.cmpS a.car b.car) (Fl.cmpI a.num b.num) (Fl.cmpI a.day b.day)
/-- Ahead: by carriers, numbers, days. -/
def llt (a b : L) : Bool := Fl.sl a.car b.car || (decide (a.car = b.car) && (decide (a.num < b.num) || (decide (a.num = b.num) && decide (a.day < b.day))))
theorem llt_iff (a b : L) : llt a b = true ↔ Fl.sl a.car b.car = true ∨ (a.car = b.car ∧ (a.num < b.num ∨ (a.num = b.num ∧ a.day < b.day))) := by simp [llt]
theorem cmpL_lt (a b : L) : decide (cmpL a b < 0) = llt a b := by
  unfold cmpL or3 Fl.cmpS Fl.cmpI llt
  rw [Fl.toList_beq]
  cases h : Fl.sl a.car b.car with
  | true => simp
  | false =>
    by_cases h2 : a.car = b.car
    · rcases Int.lt_trichotomy a.num b.num with h3 | h3 | h3
      · simp [h2, h3]
      · rcases Int.lt_trichotomy a.day b.day with h4 | h4 | h4
        · simp [h2, h3, h4]
        · simp [h2, h3, h4]
        · have : ¬ a.day < b.day := by omega
          simp [h2, h3, h4, this]
      · have : ¬ a.num < b.num := by omega
        have h5 : ¬ a.num = b.num := by omega
        simp [h2, h3, this, h5]
    · simp [h2]
theorem llt_irrefl (a : L) : llt a a = false := by simp [llt, Fl.sl_irrefl]
theorem llt_trans {a b c : L} (h : llt a b = true) (k : llt b c = true) : llt a c = true := by
  rw [llt_iff] at *
  rcases h with h | ⟨h, h'⟩
  · rcases k with k | ⟨k, k'⟩
    · exact .inl (Fl.sl_trans h k)
    · exact .inl (k ▸ h)
  · rcases k with k | ⟨k, k'⟩
    · exact .inl (h ▸ k)
    · refine .inr ⟨h.trans k, ?_⟩
      rcases h' with h' | ⟨h', h''⟩ <;> rcases k' with k' | ⟨k', k''⟩
      · exact .inl (by omega)
      · exact .inl (by omega)
      · exact .inl (by omega)
      · exact .inr ⟨by omega, by omega⟩
theorem llt_total {a b : L} (h : llt a b = false) (k : llt b a = false) : a = b := by
  have h1 : ¬ (Fl.sl a.car b.car = true ∨ (a.car = b.car ∧ (a.num < b.num ∨ (a.num = b.num ∧ a.day < b.day)))) := fun e => by rw [(llt_iff a b).2 e] at h; cases h
  have h2 : ¬ (Fl.sl b.car a.car = true ∨ (b.car = a.car ∧ (b.num < a.num ∨ (b.num = a.num ∧ b.day < a.day)))) := fun e => by rw [(llt_iff b a).2 e] at k; cases k
  have e : a.car = b.car := Fl.sl_total (by cases h : Fl.sl a.car b.car with | false => rfl | true => exact absurd (.inl h) h1) (by cases h : Fl.sl b.car a.car with | false => rfl | true => exact absurd (.inl h) h2)
  have h3 : ¬ (a.num < b.num ∨ (a.num = b.num ∧ a.day < b.day)) := fun h => h1 (.inr ⟨e, h⟩)
  have h4 : ¬ (b.num < a.num ∨ (b.num = a.num ∧ b.day < a.day)) := fun h => h2 (.inr ⟨e.symm, h⟩)
  have e2 : a.num = b.num := by omega
  have e3 : a.day = b.day := by omega
  cases a; cases b; simp_all
theorem llt_ntrans {a b c : L} (h : llt a b = false) (k : llt b c = false) : llt a c = false := by
  cases hc : llt a c with
  | false => rfl
  | true =>
    cases hd : llt b a with
    | true => rw [llt_trans hd hc] at k; cases k
    | false =>
      have := llt_total h hd
      subst this
      rw [hc] at k; cases k
theorem ltOf_cmpL (a b : L) : Go.Proofs.ltOf cmpL a b = llt a b := cmpL_lt a b
theorem swoL : Sort.SWO (Go.Proofs.ltOf cmpL) where
  irrefl x := by rw [ltOf_cmpL]; exact llt_irrefl _
  trans x y z h1 h2 := by rw [ltOf_cmpL] at *; exact llt_trans h1 h2
  ntrans x y z h1 h2 := by rw [ltOf_cmpL] at *; exact llt_ntrans h1 h2
end Hd
theorem or3_any (b : Nat) (x y z : Int) (w : World) (h0 : w.cell? ⟨b, 0, none⟩ = some (.int .i64 x)) (h1 : w.cell? ⟨b, 1, none⟩ = some (.int .i64 y)) (h2 : w.cell? ⟨b, 2, none⟩ = some (.int .i64 z)) :
    Calls Tryz.prog 58 #[.slice (some ⟨b, 0, none⟩) 3 3] w fun e w' => e = .returned (.int .i64 (Hd.or3 x y z)) ∧ w = w' := by
  unfold Hd.or3
  by_cases hx : x = 0
  · rw [if_pos hx]
    have hx2 : (x != 0) = false := by simp [hx]
    clear hx
    by_cases hy : y = 0
    · rw [if_pos hy]
      have hy2 : (y != 0) = false := by simp [hy]
      clear hy
      by_cases hz : z = 0
      · have hz2 : (z != 0) = false := by simp [hz]
        have HZ := Lib.hid hz
        clear hz
        go_enter Tryz.func58, Tryz.ntmps58
        go_wp2
        refine wp_loop_rounds 4 ?_
        rw [rounds_succ]
        go_wp2
        rw [rounds_succ]
        go_wp2
        rw [rounds_succ]
        go_wp2
        rw [rounds_succ]
        go_wp2
        go_ret
        exact ⟨by have := HZ.out; subst this; rfl, rfl⟩
      · have hz2 : (z != 0) = true := by simp [hz]
        clear hz
        go_enter Tryz.func58, Tryz.ntmps58
        go_wp2
        refine wp_loop_rounds 3 ?_
        rw [rounds_succ]
        go_wp2
        rw [rounds_succ]
        go_wp2
        rw [rounds_succ]
        go_wp2
        go_ret
        exact ⟨rfl, rfl⟩
    · rw [if_neg hy]
      have hy2 : (y != 0) = true := by simp [hy]
      clear hy
      go_enter Tryz.func58, Tryz.ntmps58
      go_wp2
      refine wp_loop_rounds 2 ?_
      rw [rounds_succ]
      go_wp2
      rw [rounds_succ]
      go_wp2
      go_ret
      exact ⟨rfl, rfl⟩
  · rw [if_neg hx]
    have hx2 : (x != 0) = true := by simp [hx]
    clear hx
    go_enter Tryz.func58, Tryz.ntmps58
    go_wp2
    refine wp_loop_rounds 1 ?_
    rw [rounds_succ]
    go_wp2
    go_ret
    exact ⟨rfl, rfl⟩
theorem or3_new (b : Nat) (x y z : Int) (w : World) (hb : b = w.heap.size) :
    Calls Tryz.prog 58 #[.slice (some ⟨b, 0, none⟩) 3 3] (w.alloc (.cells #[.int .i64 x, .int .i64 y, .int .i64 z] 3)).drew fun e w' => e = .returned (.int .i64 (Hd.or3 x y z)) ∧ (w.alloc (.cells #[.int .i64 x, .int .i64 y, .int .i64 z] 3)).drew = w' := by
  subst hb
  have hh := heap_alloc_new w (.cells #[.int .i64 x, .int .i64 y, .int .i64 z] 3)
  exact or3_any _ x y z (w.alloc (.cells #[.int .i64 x, .int .i64 y, .int .i64 z] 3)).drew ((cell_of_row (w.alloc (.cells #[.int .i64 x, .int .i64 y, .int .i64 z] 3)) w.heap.size _ _ _ _ hh).trans rfl) ((cell_of_row (w.alloc (.cells #[.int .i64 x, .int .i64 y, .int .i64 z] 3)) w.heap.size _ _ _ _ hh).trans rfl) ((cell_of_row (w.alloc (.cells #[.int .i64 x, .int .i64 y, .int .i64 z] 3)) w.heap.size _ _ _ _ hh).trans rfl)
namespace Hd
theorem two_new (W : World) (c d : Array Value) : ∀ w', Below ((W.alloc (.cells c 35)).alloc (.cells d 35)).heap.size ((W.alloc (.cells c 35)).alloc (.cells d 35)) w' →
    (∀ j, w'.cell? ⟨W.heap.size, j, none⟩ = c[j]?) ∧ (∀ j, w'.cell? ⟨W.heap.size + 1, j, none⟩ = d[j]?) := fun w' hb => by
  have z1 : (W.alloc (.cells c 35)).heap.size = W.heap.size + 1 := by simp
  have z2 : ((W.alloc (.cells c 35)).alloc (.cells d 35)).heap.size = W.heap.size + 2 := by simp
  refine ⟨fun j => ?_, fun j => ?_⟩
  · rw [hb.cell (p := ⟨W.heap.size, j, none⟩) (by show W.heap.size < _; omega)]
    have h1 := heap_alloc_new W (.cells c 35)
    have h2 : ((W.alloc (.cells c 35)).alloc (.cells d 35)).heap[W.heap.size]? = some (.cells c 35) := (Below.heap_alloc _ _ _ (by omega)).trans h1
    exact cell_of_row _ _ _ _ _ _ h2
  · rw [hb.cell (p := ⟨W.heap.size + 1, j, none⟩) (by show W.heap.size + 1 < _; omega)]
    have h1 := heap_alloc_new (W.alloc (.cells c 35)) (.cells d 35)
    rw [z1] at h1
    exact cell_of_row _ _ _ _ _ _ h1
end Hd
set_option maxHeartbeats 2000000 in
set_option maxRecDepth 20000 in
theorem byLeg_any (r s : Hd.L) (W : World) : Calls Tryz.prog 38 #[.agg (Hd.encL r).toArray, .agg (Hd.encL s).toArray] W fun e w' => e = .returned (.int .i64 (Hd.cmpL r s)) ∧ ∃ q os', w' = Go.Sort.grow (W.drewN q) os' := by
  have HE : Hid (Hd.cmpL r s = Hd.or3 (Fl.cmpS r.car s.car) (Fl.cmpI r.num s.num) (Fl.cmpI r.day s.day)) := show _ = _ by rfl
  generalize Hd.cmpL r s = res at *
  obtain ⟨car, num, day⟩ := r
  obtain ⟨car2, num2, day2⟩ := s
  unfold Hd.encL
  simp only at HE ⊢
  have H1 := Lib.hid (fun w => compare_s car car2 w)
  have H2 := Lib.hid (fun w => compare_i num num2 w)
  have H3 := Lib.hid (fun w => compare_i day day2 w)
  generalize Fl.cmpS car car2 = c1 at *
  generalize Fl.cmpI num num2 = c2 at *
  generalize Fl.cmpI day day2 = c3 at *
  have HS : Hid (∀ w', Below ((W.alloc (.cells #[.string car, .int .i64 num, .int .i64 day] 35)).alloc (.cells #[.string car2, .int .i64 num2, .int .i64 day2] 35)).heap.size ((W.alloc (.cells #[.string car, .int .i64 num, .int .i64 day] 35)).alloc (.cells #[.string car2, .int .i64 num2, .int .i64 day2] 35)) w' →
      w'.cell? ⟨W.heap.size, 0, none⟩ = some (.string car) ∧ w'.cell? ⟨W.heap.size, 1, none⟩ = some (.int .i64 num) ∧ w'.cell? ⟨W.heap.size, 2, none⟩ = some (.int .i64 day) ∧ w'.cell? ⟨W.heap.size + 1, 0, none⟩ = some (.string car2) ∧ w'.cell? ⟨W.heap.size + 1, 1, none⟩ = some (.int .i64 num2) ∧ w'.cell? ⟨W.heap.size + 1, 2, none⟩ = some (.int .i64 day2)) := fun w' hb => by
    obtain ⟨h1, h2⟩ := Hd.two_new W _ _ w' hb
    exact ⟨(h1 0).trans rfl, (h1 1).trans rfl, (h1 2).trans rfl, (h2 0).trans rfl, (h2 1).trans rfl, (h2 2).trans rfl⟩
  go_enter Tryz.func38, Tryz.ntmps38
  go_wp2
  go_region_held3 (fun w' => w'.cell? ⟨W.heap.size, 0, none⟩ = some (.string car) ∧ w'.cell? ⟨W.heap.size, 1, none⟩ = some (.int .i64 num) ∧ w'.cell? ⟨W.heap.size, 2, none⟩ = some (.int .i64 day) ∧ w'.cell? ⟨W.heap.size + 1, 0, none⟩ = some (.string car2) ∧ w'.cell? ⟨W.heap.size + 1, 1, none⟩ = some (.int .i64 num2) ∧ w'.cell? ⟨W.heap.size + 1, 2, none⟩ = some (.int .i64 day2)) (first | exact HS.out _ (Below.refl _ _) | exact HS.out _ (Below.refl _ _).drew | exact HS.out _ ((Below.refl _ _).alloc (Nat.le_refl _) _).drew) (first
    | (go_at_call 59; (with_reducible refine (H1.out _).mono ?_); rintro e w' ⟨rfl, rfl⟩)
    | (go_at_call 60; (with_reducible refine (H2.out _).mono ?_); rintro e w' ⟨rfl, rfl⟩)
    | (go_at_call 60; (with_reducible refine (H3.out _).mono ?_); rintro e w' ⟨rfl, rfl⟩)
    | (go_at_call 58; refine (or3_new _ c1 c2 c3 _ (by simp)).mono ?_; rintro e w' ⟨rfl, rfl⟩))
  go_wp2
  go_ret
  exact ⟨by have := HE.out; subst this; rfl, 1, _, by rw [Go.Sort.alloc_eq_grow, Go.Sort.alloc_eq_grow, Go.Sort.alloc_eq_grow, Go.Sort.grow_grow, Go.Sort.grow_grow]; rfl⟩
theorem cmpLaysL (blk off size : Nat) (w : World) : Go.Proofs.CmpLays Tryz.prog 38 #[] Hd.encL 3 Hd.cmpL blk off size w :=
  fun _ _ _ _ r s => byLeg_any r s _
theorem sortL_any (blk off cap : Nat) (d : Array Hd.L) (w : World) (hH : HoldsK Hd.encL 3 w blk off d) (hblk : blk < w.heap.size) (hsz : d.size < 4611686018427387904) :
    Calls Tryz.prog 56 #[.slice (some ⟨blk, off, none⟩) d.size cap, .func (.func 38) #[] #[]] w fun e w' => e = .returned (.tuple #[]) ∧ ∃ d' n os, Go.Sort.PermIn 0 d.size d d' ∧ Go.Sort.SortedIn (Go.Proofs.ltOf Hd.cmpL) 0 d.size d' ∧ w' = sortWorldK Hd.encL 3 w blk off n d' os := by
  have eg : ∀ args w, (callFunc 38 args).run Tryz.prog w = .ok (.enter 38 args) w := enters_of Tryz.func38 (by kernel_rfl) rfl
  exact Go.Proofs.AnyQ.slices_SortFunc Tryz.sortL 3 Tryz.isAgg35 Tryz.sizeOf35 Hd.encL Hd.encL_len Hd.encL_one Hd.cmpL Hd.swoL 38 #[] blk off cap d w eg (cmpLaysL blk off d.size w) hH hblk hsz
end Go.Proofs.YtfodabbmjggieaaGreat
