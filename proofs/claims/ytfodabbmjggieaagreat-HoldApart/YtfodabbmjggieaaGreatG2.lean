/- Contracts of the code and of the document that the walks lean on, part G2. -/
import Derived.Test.YtfodabbmjggieaaGreatG1
import Derived.Test.YtfodabbmjggieaaGreatShelf
import Derived.Laws.Cover1
import Derived.Sort.Walk0
import Derived.Deep.RegionWith
import Derived.Deep.RegionHeld3
import Derived.StillTailTactics
import Derived.Maps.AppendAt
import Derived.OwnWalk
import Derived.WalkArith
import Derived.Shelf.SlSortCmp.NoneTotal
import Derived.Deep.Cut
namespace Go.Proofs.YtfodabbmjggieaaGreat
open Go.RowKit
set_option linter.unusedVariables false

namespace Fl
def sl (a b : ByteArray) : Bool := Op.bytesLess a.toList b.toList
def cmpS (a b : ByteArray) : Int := if sl a b then -1 else if a.toList == b.toList then 0 else 1
def cmpI (a b : Int) : Int := if a < b then -1 else if b < a then 1 else 0
def cmpK (f g : F) : Int := if cmpS f.car g.car = 0 then cmpI f.num g.num else cmpS f.car g.car
theorem sl_iff (a b : ByteArray) : sl a b = true ↔ a.data.toList < b.data.toList := by
  unfold sl; rw [ByteArray.toList_eq, ByteArray.toList_eq, bytesLess_eq]; simp
theorem sl_irrefl (a : ByteArray) : sl a a = false := by
  cases h : sl a a with
  | false => rfl
  | true => exact absurd ((sl_iff a a).1 h) (List.lt_irrefl _)
theorem sl_trans {a b c : ByteArray} (h : sl a b = true) (k : sl b c = true) : sl a c = true := (sl_iff a c).2 (List.lt_trans ((sl_iff a b).1 h) ((sl_iff b c).1 k))
theorem ba_ext {a b : ByteArray} (h : a.data.toList = b.data.toList) : a = b := by apply ByteArray.ext; exact Array.toList_inj.1 h
theorem sl_total {a b : ByteArray} (h : sl a b = false) (k : sl b a = false) : a = b := by
  apply ba_ext
  have h1 : ¬ a.data.toList < b.data.toList := fun e => by rw [(sl_iff a b).2 e] at h; cases h
  have h2 : ¬ b.data.toList < a.data.toList := fun e => by rw [(sl_iff b a).2 e] at k; cases k
  exact List.le_antisymm (List.not_lt.1 h2) (List.not_lt.1 h1)
theorem toList_beq (a b : ByteArray) : (a.toList == b.toList) = decide (a = b) := by
  by_cases h : a = b
  · rw [str_eq h, decide_eq_true h]
  · rw [str_ne h, decide_eq_false h]
/-- By their carriers, then by their numbers. -/
def klt (f g : F) : Bool := sl f.car g.car || (decide (f.car = g.car) && decide (f.num < g.num))
theorem klt_iff (f g : F) : klt f g = true ↔ sl f.car g.car = true ∨ (f.car = g.car ∧ f.num < g.num) := by simp [klt]
theorem cmpK_lt (f g : F) : decide (cmpK f g < 0) = klt f g := by
  unfold cmpK cmpS cmpI klt
  rw [toList_beq]
  cases h : sl f.car g.car with
  | true => simp
  | false =>
    by_cases h2 : f.car = g.car
    · simp [h2]
      by_cases h3 : f.num < g.num
      · simp [h3]
      · by_cases h4 : g.num < f.num <;> simp [h3, h4]
    · simp [h2]
theorem klt_irrefl (f : F) : klt f f = false := by simp [klt, sl_irrefl]
theorem klt_trans {f g h : F} (a : klt f g = true) (b : klt g h = true) : klt f h = true := by
  rw [klt_iff] at *
  rcases a with a | ⟨a, a'⟩
  · rcases b with b | ⟨b, b'⟩
    · exact .inl (sl_trans a b)
    · exact .inl (b ▸ a)
  · rcases b with b | ⟨b, b'⟩
    · exact .inl (a ▸ b)
    · exact .inr ⟨a.trans b, by omega⟩
/-- Neither ahead of the other: one key. -/
theorem klt_total {f g : F} (a : klt f g = false) (b : klt g f = false) : f.car = g.car ∧ f.num = g.num := by
  have h1 : ¬ (sl f.car g.car = true ∨ (f.car = g.car ∧ f.num < g.num)) := fun e => by rw [(klt_iff f g).2 e] at a; cases a
  have h2 : ¬ (sl g.car f.car = true ∨ (g.car = f.car ∧ g.num < f.num)) := fun e => by rw [(klt_iff g f).2 e] at b; cases b
  have e : f.car = g.car := sl_total (by cases h : sl f.car g.car with | false => rfl | true => exact absurd (.inl h) h1) (by cases h : sl g.car f.car with | false => rfl | true => exact absurd (.inl h) h2)
  refine ⟨e, ?_⟩
  have h3 : ¬ f.num < g.num := fun h => h1 (.inr ⟨e, h⟩)
  have h4 : ¬ g.num < f.num := fun h => h2 (.inr ⟨e.symm, h⟩)
  omega
theorem klt_ntrans {f g h : F} (a : klt f g = false) (b : klt g h = false) : klt f h = false := by
  cases hc : klt f h with
  | false => rfl
  | true =>
    cases hd : klt g f with
    | true => rw [klt_trans hd hc] at b; cases b
    | false =>
      obtain ⟨e1, e2⟩ := klt_total a hd
      rw [klt_iff, e1, e2] at hc
      rw [(klt_iff g h).2 hc] at b
      cases b
def cmpR (r s : R) : Int := cmpK r.f s.f
theorem ltOf_cmpR (r s : R) : Go.Proofs.ltOf cmpR r s = klt r.f s.f := cmpK_lt r.f s.f
theorem swo : Sort.SWO (Go.Proofs.ltOf cmpR) where
  irrefl x := by rw [ltOf_cmpR]; exact klt_irrefl _
  trans x y z h1 h2 := by rw [ltOf_cmpR] at *; exact klt_trans h1 h2
  ntrans x y z h1 h2 := by rw [ltOf_cmpR] at *; exact klt_ntrans h1 h2
end Fl

theorem isNaN_s (s : ByteArray) (w : World) : Calls Tryz.prog 82 #[.string s] w fun e w' => e = .returned (.bool false) ∧ w = w' := by
  have h := Fl.str_eq (a := s) rfl
  go_enter Tryz.func82, Tryz.ntmps82
  go_wp2
  go_ret
  exact ⟨rfl, rfl⟩
theorem isNaN_i (n : Int) (w : World) : Calls Tryz.prog 83 #[.int .i64 n] w fun e w' => e = .returned (.bool false) ∧ w = w' := by
  go_enter Tryz.func83, Tryz.ntmps83
  go_wp2
  go_ret
  exact ⟨rfl, rfl⟩
theorem compare_s (a b : ByteArray) (w : World) : Calls Tryz.prog 59 #[.string a, .string b] w fun e w' => e = .returned (.int .i64 (Fl.cmpS a b)) ∧ w = w' := by
  unfold Fl.cmpS Fl.sl
  cases h : Op.bytesLess a.toList b.toList with
  | true =>
    go_enter Tryz.func59, Tryz.ntmps59
    go_wp2_with (go_at_call 82; refine (isNaN_s _ _).mono ?_; rintro e w' ⟨rfl, rfl⟩)
    go_ret
    exact ⟨rfl, rfl⟩
  | false =>
    cases h2 : a.toList == b.toList with
    | true =>
      go_enter Tryz.func59, Tryz.ntmps59
      go_wp2_with (go_at_call 82; refine (isNaN_s _ _).mono ?_; rintro e w' ⟨rfl, rfl⟩)
      go_ret
      exact ⟨rfl, rfl⟩
    | false =>
      go_enter Tryz.func59, Tryz.ntmps59
      go_wp2_with (go_at_call 82; refine (isNaN_s _ _).mono ?_; rintro e w' ⟨rfl, rfl⟩)
      go_ret
      exact ⟨rfl, rfl⟩
theorem compare_i (a b : Int) (w : World) : Calls Tryz.prog 60 #[.int .i64 a, .int .i64 b] w fun e w' => e = .returned (.int .i64 (Fl.cmpI a b)) ∧ w = w' := by
  unfold Fl.cmpI
  rcases (show a < b ∨ (¬ a < b ∧ b < a) ∨ (¬ a < b ∧ ¬ b < a) by omega) with h | ⟨h, h2⟩ | ⟨h, h2⟩
  · rw [if_pos h]
    go_enter Tryz.func60, Tryz.ntmps60
    go_wp2_with (go_at_call 83; refine (isNaN_i _ _).mono ?_; rintro e w' ⟨rfl, rfl⟩)
    go_ret
    exact ⟨rfl, rfl⟩
  · rw [if_neg h, if_pos h2]
    go_enter Tryz.func60, Tryz.ntmps60
    go_wp2_with (go_at_call 83; refine (isNaN_i _ _).mono ?_; rintro e w' ⟨rfl, rfl⟩)
    go_ret
    exact ⟨rfl, rfl⟩
  · rw [if_neg h, if_neg h2]
    go_enter Tryz.func60, Tryz.ntmps60
    go_wp2_with (go_at_call 83; refine (isNaN_i _ _).mono ?_; rintro e w' ⟨rfl, rfl⟩)
    go_ret
    exact ⟨rfl, rfl⟩
end Go.Proofs.YtfodabbmjggieaaGreat
namespace Go.Proofs.YtfodabbmjggieaaGreat
open Go.RowKit Go.Sort Go.Shelf
set_option linter.unusedVariables false

/-- The first that is not 0. -/
def Fl.orI (x y : Int) : Int := if x = 0 then y else x
theorem or_any (b : Nat) (x y : Int) (w : World) (h0 : w.cell? ⟨b, 0, none⟩ = some (.int .i64 x)) (h1 : w.cell? ⟨b, 1, none⟩ = some (.int .i64 y)) :
    Calls Tryz.prog 58 #[.slice (some ⟨b, 0, none⟩) 2 2] w fun e w' => e = .returned (.int .i64 (Fl.orI x y)) ∧ w = w' := by
  unfold Fl.orI
  by_cases hx : x = 0
  · rw [if_pos hx]
    have hx2 : (x != 0) = false := by simp [hx]
    clear hx
    by_cases hy : y = 0
    · have hy2 : (y != 0) = false := by simp [hy]
      have HY := Lib.hid hy
      clear hy
      go_enter Tryz.func58, Tryz.ntmps58
      go_wp2
      refine wp_loop_rounds 3 ?_
      rw [rounds_succ]
      go_wp2
      rw [rounds_succ]
      go_wp2
      rw [rounds_succ]
      go_wp2
      go_ret
      exact ⟨by have := HY.out; subst this; rfl, rfl⟩
    · have hy2 : (y != 0) = true := by simp [hy]
      clear hy
      go_enter Tryz.func58, Tryz.ntmps58
      go_wp2
      refine wp_loop_rounds 2 ?_
      rw [rounds_succ]
      go_wp2
      rw [rounds_succ]
      go_wp2
      go_ret
      exact ⟨rfl, rfl⟩
  · rw [if_neg hx]
    have hx2 : (x != 0) = true := by simp [hx]
    clear hx
    go_enter Tryz.func58, Tryz.ntmps58
    go_wp2
    refine wp_loop_rounds 1 ?_
    rw [rounds_succ]
    go_wp2
    go_ret
    exact ⟨rfl, rfl⟩
theorem or_new (b : Nat) (x y : Int) (w : World) (hb : b = w.heap.size) :
    Calls Tryz.prog 58 #[.slice (some ⟨b, 0, none⟩) 2 2] (w.alloc (.cells #[.int .i64 x, .int .i64 y] 3)).drew fun e w' => e = .returned (.int .i64 (Fl.orI x y)) ∧ (w.alloc (.cells #[.int .i64 x, .int .i64 y] 3)).drew = w' := by
  subst hb
  have hh := heap_alloc_new w (.cells #[.int .i64 x, .int .i64 y] 3)
  exact or_any _ x y (w.alloc (.cells #[.int .i64 x, .int .i64 y] 3)).drew ((cell_of_row (w.alloc (.cells #[.int .i64 x, .int .i64 y] 3)) w.heap.size _ _ _ _ hh).trans rfl) ((cell_of_row (w.alloc (.cells #[.int .i64 x, .int .i64 y] 3)) w.heap.size _ _ _ _ hh).trans rfl)
namespace Fl
theorem two_new (W : World) (c d : Array Value) : ∀ w', Below ((W.alloc (.cells c 70)).alloc (.cells d 70)).heap.size ((W.alloc (.cells c 70)).alloc (.cells d 70)) w' →
    (∀ j, w'.cell? ⟨W.heap.size, j, none⟩ = c[j]?) ∧ (∀ j, w'.cell? ⟨W.heap.size + 1, j, none⟩ = d[j]?) := fun w' hb => by
  have z1 : (W.alloc (.cells c 70)).heap.size = W.heap.size + 1 := by simp
  have z2 : ((W.alloc (.cells c 70)).alloc (.cells d 70)).heap.size = W.heap.size + 2 := by simp
  refine ⟨fun j => ?_, fun j => ?_⟩
  · rw [hb.cell (p := ⟨W.heap.size, j, none⟩) (by show W.heap.size < _; omega)]
    have h1 := heap_alloc_new W (.cells c 70)
    have h2 : ((W.alloc (.cells c 70)).alloc (.cells d 70)).heap[W.heap.size]? = some (.cells c 70) := (Below.heap_alloc _ _ _ (by omega)).trans h1
    exact cell_of_row _ _ _ _ _ _ h2
  · rw [hb.cell (p := ⟨W.heap.size + 1, j, none⟩) (by show W.heap.size + 1 < _; omega)]
    have h1 := heap_alloc_new (W.alloc (.cells c 70)) (.cells d 70)
    rw [z1] at h1
    exact cell_of_row _ _ _ _ _ _ h1
end Fl
set_option maxHeartbeats 1000000 in
set_option maxRecDepth 20000 in
theorem byKey_any (r s : Fl.R) (W : World) : Calls Tryz.prog 47 #[Fl.fv r, Fl.fv s] W fun e w' => e = .returned (.int .i64 (Fl.cmpR r s)) ∧ ∃ q os', w' = Go.Sort.grow (W.drewN q) os' := by
  have HE : Hid (Fl.cmpR r s = Fl.orI (Fl.cmpS r.f.car s.f.car) (Fl.cmpI r.f.num s.f.num)) := show _ = _ by rfl
  generalize Fl.cmpR r s = res at *
  obtain ⟨⟨car, num, frm, to, days, dep, arr, cls, plan⟩, A, cap⟩ := r
  obtain ⟨⟨car2, num2, frm2, to2, days2, dep2, arr2, cls2, plan2⟩, A2, cap2⟩ := s
  unfold Fl.fv
  simp only at HE ⊢
  have H1 := Lib.hid (fun w => compare_s car car2 w)
  have H2 := Lib.hid (fun w => compare_i num num2 w)
  generalize Fl.cmpS car car2 = c1 at *
  generalize Fl.cmpI num num2 = c2 at *
  have HS : Hid (∀ w', Below ((W.alloc (.cells #[.string car, .int .i64 num, .string frm, .string to, .int .u8 days, .int .i64 dep, .int .i64 arr, .slice A cls.length cap, .int .i64 plan] 70)).alloc (.cells #[.string car2, .int .i64 num2, .string frm2, .string to2, .int .u8 days2, .int .i64 dep2, .int .i64 arr2, .slice A2 cls2.length cap2, .int .i64 plan2] 70)).heap.size ((W.alloc (.cells #[.string car, .int .i64 num, .string frm, .string to, .int .u8 days, .int .i64 dep, .int .i64 arr, .slice A cls.length cap, .int .i64 plan] 70)).alloc (.cells #[.string car2, .int .i64 num2, .string frm2, .string to2, .int .u8 days2, .int .i64 dep2, .int .i64 arr2, .slice A2 cls2.length cap2, .int .i64 plan2] 70)) w' →
      w'.cell? ⟨W.heap.size, 0, none⟩ = some (.string car) ∧ w'.cell? ⟨W.heap.size, 1, none⟩ = some (.int .i64 num) ∧ w'.cell? ⟨W.heap.size + 1, 0, none⟩ = some (.string car2) ∧ w'.cell? ⟨W.heap.size + 1, 1, none⟩ = some (.int .i64 num2)) := fun w' hb => by
    obtain ⟨h1, h2⟩ := Fl.two_new W _ _ w' hb
    exact ⟨(h1 0).trans rfl, (h1 1).trans rfl, (h2 0).trans rfl, (h2 1).trans rfl⟩
  go_enter Tryz.func47, Tryz.ntmps47
  go_wp2
  go_region_held3 (fun w' => w'.cell? ⟨W.heap.size, 0, none⟩ = some (.string car) ∧ w'.cell? ⟨W.heap.size, 1, none⟩ = some (.int .i64 num) ∧ w'.cell? ⟨W.heap.size + 1, 0, none⟩ = some (.string car2) ∧ w'.cell? ⟨W.heap.size + 1, 1, none⟩ = some (.int .i64 num2)) (first | exact HS.out _ (Below.refl _ _) | exact HS.out _ (Below.refl _ _).drew | exact HS.out _ ((Below.refl _ _).alloc (Nat.le_refl _) _).drew) (first
    | (go_at_call 59; refine (H1.out _).mono ?_; rintro e w' ⟨rfl, rfl⟩)
    | (go_at_call 60; refine (H2.out _).mono ?_; rintro e w' ⟨rfl, rfl⟩)
    | (go_at_call 58; refine (or_new _ c1 c2 _ (by simp)).mono ?_; rintro e w' ⟨rfl, rfl⟩))
  go_wp2
  go_ret
  exact ⟨by have := HE.out; subst this; rfl, 1, _, by rw [Go.Sort.alloc_eq_grow, Go.Sort.alloc_eq_grow, Go.Sort.alloc_eq_grow, Go.Sort.grow_grow, Go.Sort.grow_grow]; rfl⟩
theorem cmpLays (blk off size : Nat) (w : World) : Go.Proofs.CmpLays Tryz.prog 47 #[] Fl.enc 9 Fl.cmpR blk off size w :=
  fun _ _ _ _ r s => byKey_any r s _
theorem sortF_any (blk off cap : Nat) (d : Array Fl.R) (w : World) (hH : HoldsK Fl.enc 9 w blk off d) (hblk : blk < w.heap.size) (hsz : d.size < 4611686018427387904) :
    Calls Tryz.prog 46 #[.slice (some ⟨blk, off, none⟩) d.size cap, .func (.func 47) #[] #[]] w fun e w' => e = .returned (.tuple #[]) ∧ ∃ d' n os, Go.Sort.PermIn 0 d.size d d' ∧ Go.Sort.SortedIn (Go.Proofs.ltOf Fl.cmpR) 0 d.size d' ∧ w' = sortWorldK Fl.enc 9 w blk off n d' os := by
  have eg : ∀ args w, (callFunc 47 args).run Tryz.prog w = .ok (.enter 47 args) w := enters_of Tryz.func47 (by kernel_rfl) rfl
  exact Go.Proofs.AnyQ.slices_SortFunc Tryz.sortF 9 Tryz.isAgg70 Tryz.sizeOf70 Fl.enc Fl.enc_len Fl.enc_one Fl.cmpR Fl.swo 47 #[] blk off cap d w eg (cmpLays blk off d.size w) hH hblk hsz
end Go.Proofs.YtfodabbmjggieaaGreat
namespace Go.Proofs.YtfodabbmjggieaaGreat
open Go.RowKit Go.Sort Go.Shelf
set_option linter.unusedVariables false

noncomputable def clsI : TypeInfo := (Tryz.prog.info? 67).get (by kernel_rfl)
/-- A clone of classes is new. -/
def Fl.CloneIs (w : World) (l : List (Int × Int)) (e : Ending) (w' : World) : Prop :=
  ∃ A cap, e = .returned (.slice A l.length cap) ∧ Fl.CNew w' w.heap.size w'.heap.size A l ∧ l.length ≤ cap ∧ (A = none → cap = 0) ∧ (∀ a, A = some a → a.spot = none) ∧ Below w.heap.size w w'
theorem clone_any (A : Option Addr) (cap : Nat) (l : List (Int × Int)) (B : Nat) (w : World) (h : Fl.Cls w B A l) (hl : l.length ≤ 3000) (hn : l.length ≤ cap) (hc : A = none → cap = 0) (hs : ∀ a, A = some a → a.spot = none) :
    Calls Tryz.prog 97 #[.slice A l.length cap] w (Fl.CloneIs w l) := by
  cases A with
  | none =>
    have h0 := hc rfl
    have h1 : l = [] := List.eq_nil_of_length_eq_zero (by omega)
    subst h0 h1
    exact (Go.Proofs.AnyE.slices_Clone_nil Tryz.cloneC 0 0 w).mono fun e w' ⟨he, hw⟩ => ⟨none, 0, he, fun h => absurd h (by decide), by simp, fun _ => rfl, (fun _ h => by cases h), hw ▸ Below.refl _ _⟩
  | some a =>
    obtain ⟨b, off, spot⟩ := a
    have := hs _ rfl
    simp only at this
    subst this
    refine (Go.Proofs.AnyE.slices_Clone Tryz.cloneC clsI (.agg #[.int .u8 0, .int .i64 0]) 2 16 (by kernel_rfl) (by kernel_rfl) (by kernel_rfl) (by kernel_rfl) rfl (by decide) Tryz.sizeOf67 b off l.length cap (Fl.cc l) w (Fl.cc_len l) (by unfold maxLen; omega) (by omega) (h.cells rfl) (Fl.cc_one l)).mono fun e w' ⟨v', he, hown, hne, hb⟩ => ?_
    obtain ⟨_, ⟨hv, h0⟩ | ⟨g, cap', cur, hv, hg, hh, hcap, _, hsz, htk⟩⟩ := hown
    · exact absurd hv hne
    · refine ⟨some ⟨g, 0, none⟩, cap', by rw [he, hv], fun hl0 => ⟨g, cur, rfl, hg, Rw.lt_of_some hh, hh, htk⟩, hcap, (fun h => by cases h), (fun a h => by injection h with h; subst h; rfl), hb⟩
/-- A flight with new classes. -/
def Fl.AloneIs (w : World) (f : Fl.F) (e : Ending) (w' : World) : Prop :=
  ∃ A cap, e = .returned (Fl.fv ⟨f, A, cap⟩) ∧ Fl.CNew w' w.heap.size w'.heap.size A f.cls ∧ f.cls.length ≤ cap ∧ (A = none → cap = 0) ∧ (∀ a, A = some a → a.spot = none) ∧ Below w.heap.size w w'
set_option maxHeartbeats 1000000 in
theorem alone_any (r : Fl.R) (B : Nat) (w : World) (hw : Fl.Wf r) (h : Fl.Cls w B r.A r.f.cls) (hB : B ≤ w.heap.size) (hl : r.f.cls.length ≤ 3000) (hp : 0 < r.f.cls.length ∨ r.A = none) :
    Calls Tryz.prog 74 #[Fl.fv r] w (Fl.AloneIs w r.f) := by
  have HC := Lib.hid (fun w' (hb : Below w.heap.size w w') => clone_any r.A r.cap r.f.cls B w' (h.below hb hB) hl hw.lc hw.nc (fun a h => by
    rcases hp with hp | hp
    · exact hw.sp a h hp
    · rw [hp] at h; cases h))
  clear h hw hl
  rw [← Fl.fv_enc]
  generalize hN : r.f.cls.length = nl at HC
  have HNL := Lib.hid hN
  clear hN
  go_enter Tryz.func74, Tryz.ntmps74
  go_wp2_with (first
    | (refine Rw.wpList_box rfl 70 _ rfl (Fl.enc r) rfl ?_; intro w1 K1 hb1 hz1; have hlt1 : w.heap.size < w1.heap.size := by omega
       clear hz1)
    | (refine Rw.wpList_alloc rfl 70 rfl (Fl.enc Fl.r0) Fl.zF ?_; intro w2 K2 hb2 hz2; clear hz2; have b12 := hb1.trans (hb2.mono hb1.size); have K12 := Lib.hid (K1.below' hb2); have c7 : w2.cell? ⟨w.heap.size, 7, none⟩ = some (.slice r.A nl r.cap) := (K12.out.cell 7).trans (by rw [← HNL.out]; rfl); have K22 := Lib.hid K2; clear K1 K2)
    | (go_at_call 97; refine (HC.out _ b12).mono ?_; rintro e w3 ⟨A1, cap1, rfl, HN, hcap, hnil, hsp, hb3⟩; have b13 := b12.trans (hb3.mono b12.size); have K13 := Lib.hid (K12.out.below' hb3); have K23 := Lib.hid (K22.out.below' hb3); have HNW := Lib.hid HN; clear HN)
    | (refine Rw.wpList_store_one rfl 68 _ _ rfl w.heap.size 7 rfl _ rfl rfl _ _ K13.out Fl.iC (show 7 < (Fl.enc r).length from (by decide : 7 < 9)) rfl ?_; intro w4 K4 f4; have K14 := Lib.hid (show Rw.Blk w4 w.heap.size 70 (Fl.enc ⟨r.f, A1, cap1⟩) from K4); have K24 := Lib.hid (K23.out.kept (f4.block w1.heap.size K23.out.lt (show ¬ (w1.heap.size = w.heap.size) by omega))); clear K4)
    | (refine wpList_load_mid rfl 70 _ rfl w.heap.size 0 rfl (Fl.enc ⟨r.f, A1, cap1⟩) _ K14.out.range Fl.uF Fl.rF Fl.iF ?_)
    | (refine Rw.wpList_store_whole rfl 70 _ _ rfl w1.heap.size rfl (Fl.enc ⟨r.f, A1, cap1⟩) rfl _ _ K24.out Fl.iF rfl (Fl.enc_one _) ?_; intro w5 K5 f5))
  have hc5 := K5.cell
  have b14 := b13.trans (f4.below (B := w.heap.size) b13.size (fun k hk => by have : k = w.heap.size := hk; omega))
  have b15 := b14.trans (f5.below (B := w.heap.size) b14.size (fun k hk => by have : k = w1.heap.size := hk; omega))
  have HN5 : Fl.CNew w5 w.heap.size w5.heap.size A1 r.f.cls := by
    refine (HNW.out.kept (w' := w5) fun k cur h0 h1 _ => ?_).more b12.size (Nat.le_trans f4.size f5.size)
    have hk1 := K22.out.lt
    exact (f5.block k (Nat.lt_of_lt_of_le h1 f4.size) (show ¬ (k = w1.heap.size) by omega)).trans (f4.block k h1 (show ¬ (k = w.heap.size) by omega))
  refine bodyPost_ret (v := Fl.fv ⟨r.f, A1, cap1⟩) ?_ rfl ⟨A1, cap1, rfl, HN5, hcap, hnil, hsp, b15⟩
  simp [results, Tryz.results74, go_sem, hc5, Fl.enc, Fl.fv]
end Go.Proofs.YtfodabbmjggieaaGreat
namespace Go.Proofs.YtfodabbmjggieaaGreat
open Go.RowKit
set_option linter.unusedVariables false

namespace Fl
theorem infoF : (Tryz.prog.info? 70).map (fun i => (i.zero, i.size, i.bytes)) = some (some (.agg (enc r0).toArray), 9, 112) := by kernel_rfl
theorem infoF' : ∃ i, Tryz.prog.info? 70 = some i ∧ i.zero = some (.agg (enc r0).toArray) ∧ i.size = 9 ∧ i.bytes = 112 := by
  obtain ⟨i, hi, h⟩ := Option.map_eq_some_iff.1 infoF
  simp only [Prod.mk.injEq] at h
  exact ⟨i, hi, h.1, h.2.1, h.2.2⟩
theorem Own.ownTy {w : World} {base : Nat} {v : Value} {rs : List R} (h : Own w base v rs) {k : Nat} (hk : v.ownBlock = some k) : base ≤ k ∧ ∃ cur, w.heap[k]? = some (.cells cur 70 (0, 0)) := by
  obtain ⟨_, ⟨hv, h0⟩ | ⟨g, cap, cur, hv, hg, hh, _⟩⟩ := h.row
  · rw [hv] at hk; cases hk
  · rw [hv] at hk
    simp only [Value.ownBlock, Option.some.injEq] at hk
    subst hk
    exact ⟨hg, cur, hh⟩
theorem wpList_appendFl {w1 : World} {ops : Array Oper} {rest : List Oper} {o : Oper} {a : Act} {Q : Exit → Act → World → Prop} (hgd : o.guard = none) (s x : Operand)
    (ho : o.op = .call { callee := .builtin .append, args := #[s, x], argTypes := #[22, 22] })
    (base : Nat) (v : Value) (rs : List R) (r : R) (hown : Own w1 base v rs) (hr : CNew w1 base w1.heap.size r.A r.f.cls) (hwr : Wf r) (hs : a.eval s = v) (g : Nat) (hx : a.eval x = .slice (some ⟨g, 0, none⟩) 1 1) (hg : Rw.Blk w1 g 70 (enc r))
    (hlen : rs.length < 4000) (hbase : base ≤ w1.heap.size) (n : Nat) (hn : n = rs.length + 1)
    (h : ∀ A' cap' w', Hid (Own w' base (.slice A' n cap') (rs ++ [r])) → Hid (Below base w1 w') → wpList Tryz.prog ops Q rest (a.put o.dst (.slice A' n cap')) w') : wpList Tryz.prog ops Q (o :: rest) a w1 := by
  subst hn
  obtain ⟨i0, hi0, hz0, hz1, hz2⟩ := infoF'
  obtain ⟨v', w', hrun, hown', hgr, hnil, _⟩ := run_append_own_at (P := Tryz.prog) w1 base 22 o.type 70 i0 (.agg (enc r0).toArray) 9 112 Tryz.underlying22 hi0 hz0 hz1 hz2 rfl (by omega) v rs.length (flat rs) hown.row ⟨g, 0, none⟩ 1 1 (enc r) (by rw [enc_len]) (fun j u hu => by
    rw [Addr.add_mid, Nat.zero_add, hg.cell j]; exact hu) (enc_one r) (by unfold maxLen; omega) (by omega) hbase
  have hb : Below base w1 w' := ⟨hgr.os, hgr.tape, hgr.output, hgr.size, fun k hk => hgr.block k (by omega) (fun e => by have := (hown.ownTy e.symm).1; omega)⟩
  have hkeep : ∀ k cur, base ≤ k → k < w1.heap.size → w1.heap[k]? = some (.cells cur 67 (0, 0)) → w'.heap[k]? = w1.heap[k]? := fun k cur h0 h1 hh => hgr.block k h1 (fun e => by
    obtain ⟨_, cur', hh'⟩ := hown.ownTy e.symm
    rw [hh] at hh'
    cases hh')
  have hO : Own w' base v' (rs ++ [r]) := by
    refine ⟨by rw [List.length_append, flat_append, flat_one]; exact hown', fun q hq => ?_, fun q hq => ?_⟩
    · rcases List.mem_append.1 hq with hq | hq
      · exact ((hown.cls q hq).kept hkeep).more (Nat.le_refl _) hgr.size
      · simp at hq; subst hq
        exact (hr.kept hkeep).more (Nat.le_refl _) hgr.size
    · rcases List.mem_append.1 hq with hq | hq
      · exact hown.wf q hq
      · simp at hq; subst hq; exact hwr
  obtain ⟨A', cap', hv, _⟩ := hO.fls
  rw [List.length_append] at hv
  simp only [List.length_cons, List.length_nil, Nat.zero_add] at hv
  refine wpList_plain hgd fun K hK' => ?_
  unfold Oper.wp execOp
  simp only [ho, resolve, invoke, builtin, Sem.run_bind, Sem.run_pure, Result.andThen_ok, List.map_toArray, List.map_cons, List.map_nil, hs, hx, hrun]
  rw [hv] at hO ⊢
  exact hK' _ _ (h A' cap' w' hO hb)
theorem Own.nil {w : World} {base : Nat} {v : Value} (h : w.ownsRow base 70 9 v 0 []) : Own w base v [] := ⟨h, by simp, by simp⟩
/-- The flights, in memory of the call's own. -/
def CopiesIs (w : World) (fs : List F) (e : Ending) (w' : World) : Prop :=
  ∃ A cap rs, e = .returned (.slice A fs.length cap) ∧ rs.map R.f = fs ∧ Own w' w.heap.size (.slice A fs.length cap) rs ∧ Below w.heap.size w w'
end Fl
end Go.Proofs.YtfodabbmjggieaaGreat
namespace Go.Proofs.YtfodabbmjggieaaGreat
open Go.RowKit
set_option linter.unusedVariables false

namespace Fl
theorem run_build1 (r : R) (w : World) : (Instr.buildSlice 22 1 #[(0, fv r)]).run Tryz.prog w = .ok (.slice (some ⟨w.heap.size, 0, none⟩) 1 1) (w.alloc (.cells (enc r).toArray 70)) := by
  obtain ⟨⟨car, num, frm, to, days, dep, arr, cls, plan⟩, A, cap⟩ := r
  unfold fv enc
  simp only
  simp [Instr.buildSlice, run_underlying Tryz.underlying22, Tryz.sizeOf70, go_sem, Instr.fill, newRow]
section
variable {w : World} {ops : Array Oper} {rest : List Oper} {o : Oper} {a : Act} {Q : Exit → Act → World → Prop}
theorem wpList_build1 (hg : o.guard = none) (y : Operand) (hop : o.op = Op.buildSlice 22 1 #[(0, y)]) (r : R) (hx : a.eval y = fv r)
    (hK : ∀ w', Rw.Blk w' w.heap.size 70 (enc r) → Below w.heap.size w w' → wpList Tryz.prog ops Q rest (a.put o.dst (.slice (some ⟨w.heap.size, 0, none⟩) 1 1)) w') : wpList Tryz.prog ops Q (o :: rest) a w := by
  refine wpList_plain hg fun K hK' => ?_
  have hr := run_build1 r w
  unfold Oper.wp
  simp [execOp, hop, hx, hr, Result.andThen]
  exact hK' _ _ (hK _ (heap_alloc_new w _) ((Below.refl _ _).alloc (Nat.le_refl _) _))
end
end Fl
set_option maxHeartbeats 1000000 in
theorem copies_any (A : Option Addr) (rs : List Fl.R) (cap B : Nat) (w : World) (h : Fl.Fls w B A rs) (hB : B ≤ w.heap.size) (hn : rs.length ≤ 3000) (hl : ∀ r ∈ rs, 0 < r.f.cls.length ∧ r.f.cls.length ≤ 3000) :
    Calls Tryz.prog 45 #[.slice A rs.length cap] w (Fl.CopiesIs w (rs.map Fl.R.f)) := by
  obtain ⟨i0, hi0, hz0, hz1, hz2⟩ := Fl.infoF'
  have HI := Lib.hid hi0
  have HZ0 := Lib.hid hz0
  have HZ1 := Lib.hid hz1
  have HZ2 := Lib.hid hz2
  have HF := Lib.hid h
  have HLS := Lib.hid hl
  clear hi0 hz0 hz1 hz2 h hl
  go_enter Tryz.func45, Tryz.ntmps45
  go_wp2_with (refine wpList_make_own _ rfl _ _ 22 rfl w.heap.size 70 i0 _ 9 Tryz.underlying22 HI.out HZ0.out HZ1.out .i64 .i64 _ rs.length rfl rfl rfl (by rw [HZ2.out]; omega) (by unfold maxLen; omega) (Nat.le_refl _) ?_; intro w1 r1 g1)
  have hb1 : Below w.heap.size w w1 := ⟨g1.os, g1.tape, g1.output, g1.size, fun k hk => g1.block k hk (by simp)⟩
  have HO1 := Lib.hid (Fl.Own.nil r1)
  clear r1 g1
  go_loopw [3, 11] (fun o i wr => ∃ (k : Nat) (A' : Option Addr) (cap' : Nat) (rs' : List Fl.R), k ≤ rs.length ∧ i = .int .i64 k ∧ o = .slice A' k cap' ∧ Hid (rs'.map Fl.R.f = (rs.map Fl.R.f).take k) ∧ Hid (Fl.Own wr w.heap.size (.slice A' k cap') rs') ∧ Below w.heap.size w wr) (fun _ i _ => rs.length - (intOf i).toNat)
  case atStart => exact ⟨0, _, _, [], by omega, rfl, rfl, show _ = _ by simp, HO1.out, hb1⟩
  case round =>
    obtain ⟨k, A', cap', rs', hk, rfl, rfl, HM, HO, hbr⟩ := hrel
    by_cases hlt : k < rs.length
    · obtain ⟨b, off, hA, hbB, hrow⟩ := HF.out.row (by omega)
      have hlen' : rs'.length = k := by have := congrArg List.length HM.out; simpa [Nat.min_eq_left hk] using this
      have HLN := Lib.hid hlen'
      have HR : Hid (wr.rangeAt b (off + k * 9) (Fl.enc rs[k])) := fun j v hv => (hbr.cell (p := ⟨b, _, none⟩) (show b < w.heap.size by omega)).trans (hrow k hlt j v hv)
      have HC := Lib.hid (HF.out.cls rs[k] (List.getElem_mem hlt))
      have HW := Lib.hid (HF.out.wf rs[k] (List.getElem_mem hlt))
      have HL3 := Lib.hid (HLS.out rs[k] (List.getElem_mem hlt))
      have HM2 : Hid ((rs.map Fl.R.f).take (k + 1) = rs'.map Fl.R.f ++ [rs[k].f]) := show _ = _ by
        rw [HM.out, List.take_succ_eq_append_getElem (by simpa using hlt)]; simp
      subst hA
      clear hrow hlen'
      generalize hr : rs[k] = r at *
      have HRR := Lib.hid hr
      clear hr
      go_wp2_with (first
        | (refine wpList_load_mid rfl 70 _ rfl b (off + k * 9) rfl (Fl.enc r) _ HR.out Fl.uF Fl.rF Fl.iF ?_)
        | (refine Rw.wpList_alloc rfl 70 rfl (Fl.enc Fl.r0) Fl.zF ?_; intro w2 K2 hb2 hz2; clear hz2)
        | (refine Rw.wpList_store_whole rfl 70 _ _ rfl wr.heap.size rfl (Fl.enc r) rfl _ _ K2 Fl.iF rfl (Fl.enc_one _) ?_; intro w3 K3 f3; have b3 : Below wr.heap.size wr w3 := hb2.trans (f3.below hb2.size (fun k hk => by have : k = wr.heap.size := hk; omega)); have b03 := hbr.trans (b3.mono hbr.size))
        | (refine wpList_load_mid rfl 70 _ rfl wr.heap.size 0 rfl (Fl.enc r) _ K3.range Fl.uF Fl.rF Fl.iF ?_)
        | (go_at_call 74; refine (alone_any r B w3 HW.out (HC.out.below b03 hB) (Nat.le_trans hB b03.size) HL3.out.2 (.inl HL3.out.1)).mono ?_; rintro e w4 ⟨A1, cap1, rfl, HN, hcap, hnil, hsp, hb4⟩; have b4 := b3.trans (hb4.mono b3.size); have b04 := b03.trans (hb4.mono b03.size); have HN4 := Lib.hid HN; have HSP := Lib.hid hsp; clear HN hsp)
        | (refine Fl.wpList_build1 rfl _ rfl ⟨r.f, A1, cap1⟩ rfl ?_; intro w5 K5 hb5)
        | (refine Fl.wpList_appendFl rfl _ _ rfl w.heap.size _ rs' ⟨r.f, A1, cap1⟩ ((HO.out.below b4).below hb5) ?q1 ?q2 rfl _ rfl K5 ?q3 ?q4 (k + 1) ?q5 ?_))
      case q1 => exact ((HN4.out.below hb5).more b03.size hb5.size)
      case q2 => exact ⟨HW.out.car, HW.out.frm, HW.out.to, HW.out.n0, HW.out.n1, HW.out.d0, HW.out.d1, HW.out.p0, HW.out.p1, HW.out.a0, HW.out.a1, HW.out.l, hcap, hnil, fun a h _ => HSP.out a h⟩
      case q3 => rw [HLN.out]; omega
      case q4 => exact Nat.le_trans b04.size hb5.size
      case q5 => rw [HLN.out]
      intro A2 cap2 w6 HO6 hb6
      go_wp2
      go_roundw
      case rel => exact ⟨k + 1, A2, cap2, rs' ++ [(⟨r.f, A1, cap1⟩ : Fl.R)], by omega, by go_num, rfl, (show _ = _ by rw [HM2.out]; simp), HO6, (b04.trans (hb5.mono b04.size)).trans hb6.out⟩
      case measure => simp [intOf]; omega
    · have hkn : k = rs.length := by omega
      have HM3 : Hid (rs'.map Fl.R.f = rs.map Fl.R.f) := show _ = _ by
        rw [HM.out, hkn]; exact List.take_of_length_le (by simp)
      go_wp2
      go_ret
      refine ⟨A', cap', rs', ?_, HM3.out, ?_, hbr⟩
      · rw [List.length_map, ← hkn]; rfl
      · rw [List.length_map, ← hkn]; exact HO.out
end Go.Proofs.YtfodabbmjggieaaGreat
namespace Go.Proofs.YtfodabbmjggieaaGreat
open Go.RowKit Go.WideMaps
set_option linter.unusedVariables false

namespace Fl
theorem rowKey : (33 : TypeId) < Tryz.prog.types.size := of_decide_eq_true (by kernel_rfl)
theorem wideKey : (match Tryz.prog.underlying 33 with | some (.array _ _) | some (.struct _) => true | _ => false) = true := by kernel_rfl
set_option maxRecDepth 20000 in
theorem lawKey : KeyLaw Tryz.prog 33 := deep_law_laid laidOut (m := 3) (by omega) rowKey (by kernel_rfl) wideKey
theorem cellsKey : Tryz.prog.cellsOf 33 = 2 := by kernel_rfl
def kv (f : F) : Value := .agg #[.string f.car, .int .i64 f.num]
theorem kv_inj {f g : F} (h : kv f = kv g) : f.car = g.car ∧ f.num = g.num := by
  simp [kv] at h
  exact h
theorem fieldsKey : ∃ fs, Tryz.prog.underlying 33 = some (.struct fs) ∧ fs.all (fun f => f.name != "_") = true ∧ fs.toList.map (fun f => (f.type, f.offset)) = [(9, 0), (3, 1)] := by
  have h : (match Tryz.prog.underlying 33 with | some (.struct fs) => fs.all (fun f => f.name != "_") && decide (fs.toList.map (fun f => (f.type, f.offset)) = [(9, 0), (3, 1)]) | _ => false) = true := by kernel_rfl
  split at h
  · rename_i fs he
    simp only [Bool.and_eq_true, decide_eq_true_eq] at h
    exact ⟨fs, he, h.1, h.2⟩
  · cases h
theorem keyType : Tryz.prog.keyType 33 = true := by kernel_rfl
theorem cells1 : Tryz.prog.cellsOf 9 = 1 ∧ Tryz.prog.cellsOf 3 = 1 := ⟨by kernel_rfl, by kernel_rfl⟩
theorem uStr : Tryz.prog.underlying 9 = some .string := by kernel_rfl
theorem uInt : Tryz.prog.underlying 3 = some (.int .i64) := by kernel_rfl
theorem succ_of {a : Nat} (k : Nat) (h : k < a) : ∃ n, a = n + 1 := ⟨a - 1, by omega⟩
theorem sizeTys : ∃ n, Tryz.prog.types.size = n + 1 := succ_of 33 rowKey
theorem kv_key {f : F} (hs : f.car.size ≤ 9223372036854775807) (h0 : -9223372036854775808 ≤ f.num) (h1 : f.num ≤ 9223372036854775807) : Mp.KeyIs Tryz.prog 33 (kv f) := by
  obtain ⟨fs, hu, hn, hf⟩ := fieldsKey
  obtain ⟨n, hz⟩ := sizeTys
  have hfs : ∃ a b, fs.toList = [a, b] ∧ a.type = 9 ∧ a.offset = 0 ∧ b.type = 3 ∧ b.offset = 1 := by
    rcases hl : fs.toList with _ | ⟨a, _ | ⟨b, _ | ⟨c, r⟩⟩⟩ <;> rw [hl] at hf <;> simp at hf
    exact ⟨a, b, rfl, hf.1.1, hf.1.2, hf.2.1, hf.2.2⟩
  obtain ⟨a, b, hl, ha, hao, hb, hbo⟩ := hfs
  have hw := Go.WalkArith.wf_i64 ⟨h0, h1⟩
  have hS : Tryz.prog.keyLits (n + 1) 9 [.string f.car] = some [.string f.car.data.toList] := by
    simp only [Program.keyLits, uStr]
    rw [if_pos (show f.car.size ≤ maxLen by unfold maxLen; omega)]
  have hI : Tryz.prog.keyLits (n + 1) 3 [.int .i64 f.num] = some [.int .i64 f.num] := by
    simp only [Program.keyLits, uInt]
    rw [if_pos ⟨trivial, hw⟩]
  have hL : Tryz.prog.keyLits (Tryz.prog.types.size + 1) 33 [.string f.car, .int .i64 f.num] = some [.string f.car.data.toList, .int .i64 f.num] := by
    have hM : (fs.toList.mapM fun q => Tryz.prog.keyLits (n + 1) q.type (([.string f.car, .int .i64 f.num] : List Value).drop q.offset |>.take (Tryz.prog.cellsOf q.type))) = some [[.string f.car.data.toList], [.int .i64 f.num]] := by
      rw [hl]
      simp only [List.mapM_cons, List.mapM_nil, ha, hao, hb, hbo, cells1.1, cells1.2, List.drop_zero, List.drop_succ_cons, List.take_succ_cons, List.take_zero, hS, hI]
      rfl
    rw [hz]
    generalize n + 1 = m at hM ⊢
    simp only [Program.keyLits, hu, hM]
    rw [if_pos ⟨by rw [cellsKey]; rfl, hn⟩]
    rfl
  have hv : (kv f).formed Tryz.prog 33 = true := by
    simp [kv, Value.formed, hu, cellsKey]
  refine ⟨.string (keyBytes [.string f.car.data.toList, .int .i64 f.num]), ?_⟩
  unfold keyOf
  rw [hu]
  simp only
  rw [keyType, hv]
  simp only [kv, Value.cells, Bool.and_self, if_true, hL]
  rfl
end Fl
end Go.Proofs.YtfodabbmjggieaaGreat
namespace Go.Proofs.YtfodabbmjggieaaGreat
open Go.RowKit Go.Sort Go.Shelf
set_option linter.unusedVariables false

namespace Fl
theorem flatK_flat (rs : List R) : (flatK enc 9 rs.toArray).toList = flat rs := by
  apply List.ext_getElem?
  intro t
  rcases Nat.lt_or_ge t (rs.length * 9) with ht | ht
  · have hd : t / 9 < rs.length := by omega
    have h1 : (flatK enc 9 rs.toArray)[t]! = (enc rs.toArray[t / 9]!)[t % 9]! := get_flatK enc 9 rs.toArray t (by simpa using ht)
    have hz : t < (flatK enc 9 rs.toArray).size := by simpa using ht
    rw [Array.getElem?_toList, Array.getElem?_eq_getElem hz, ← getElem!_pos (flatK enc 9 rs.toArray) t hz, h1]
    have h2 := flat_get rs (t / 9) hd (t % 9) (by omega)
    rw [show t / 9 * 9 + t % 9 = t by omega] at h2
    rw [h2]
    have h3 : rs.toArray[t / 9]! = rs[t / 9] := by rw [getElem!_pos rs.toArray (t / 9) (by simpa using hd)]; simp
    rw [h3]
    have h4 : t % 9 < (enc rs[t / 9]).length := by rw [enc_len]; omega
    rw [List.getElem?_eq_getElem h4, getElem!_pos (enc rs[t / 9]) (t % 9) h4]
  · rw [List.getElem?_eq_none (by simpa using ht), List.getElem?_eq_none (by rw [flat_len]; exact ht)]
theorem holds_of {w : World} {g : Nat} {cur : Array Value} {rs : List R} (hh : w.heap[g]? = some (.cells cur 70 (0, 0))) (htk : cur.toList.take (rs.length * 9) = flat rs) : HoldsK enc 9 w g 0 rs.toArray := fun j hj => by
  have hj' : j < rs.length * 9 := by simpa using hj
  refine ⟨?_, ?_⟩
  · rw [cell_of_row _ _ _ _ _ _ hh, Nat.zero_add]
    have h1 : (flat rs)[j]? = (flatK enc 9 rs.toArray)[j]? := by rw [← flatK_flat, Array.getElem?_toList]
    rw [← htk, List.getElem?_take_of_lt hj', Array.getElem?_eq_getElem hj] at h1
    rw [getElem!_pos _ j hj]
    simpa using h1
  · unfold World.frozen?
    rw [hh]
    simp
theorem putCells_take (c d : Array Value) (h : d.size ≤ c.size) : (putCells id 0 d c).toList.take d.size = d.toList ∧ (putCells id 0 d c).size = c.size := by
  refine ⟨?_, by simp [putCells]⟩
  apply List.ext_getElem?
  intro t
  rcases Nat.lt_or_ge t d.size with ht | ht
  · rw [List.getElem?_take_of_lt ht, Array.getElem?_toList, Array.getElem?_toList]
    simp [putCells, ht, Nat.lt_of_lt_of_le ht h]
  · rw [List.getElem?_eq_none (by simp; omega), List.getElem?_eq_none (by simpa using ht)]
theorem sortWorld_block (w : World) (g n : Nat) (d : Array R) (os : Array Obj) (cur : Array Value) (hh : w.heap[g]? = some (.cells cur 70 (0, 0))) :
    (sortWorldK enc 9 w g 0 n d os).heap[g]? = some (.cells (putCells id 0 (flatK enc 9 d) cur) 70 (0, 0)) := by
  have hg := Rw.lt_of_some hh
  have hz : g < ((Go.Sort.ahead w n).heap.modify g (onCells (putCells id 0 (flatK enc 9 d)))).size := by simpa [Go.Sort.ahead] using hg
  show (((Go.Sort.ahead w n).heap.modify g (onCells (putCells id 0 (flatK enc 9 d)))) ++ os)[g]? = _
  rw [Array.getElem?_append_left hz, Array.getElem?_modify, if_pos rfl]
  show Option.map _ w.heap[g]? = _
  rw [hh]
  rfl
theorem sortWorld_fr (w : World) (g n : Nat) (d : Array R) (os : Array Obj) : Rw.Fr (· = g) w (sortWorldK enc 9 w g 0 n d os) :=
  ⟨rfl, rfl, rfl, by simp [sortWorldK, grow, putRowK, putRow, mapBlock], fun k hk hne => by
    have hz : k < ((Go.Sort.ahead w n).heap.modify g (onCells (putCells id 0 (flatK enc 9 d)))).size := by simpa [Go.Sort.ahead] using hk
    show (((Go.Sort.ahead w n).heap.modify g (onCells (putCells id 0 (flatK enc 9 d)))) ++ os)[k]? = _
    rw [Array.getElem?_append_left hz, Array.getElem?_modify, if_neg (fun e => hne e.symm)]
    rfl⟩
/-- Rising by their keys. -/
def Rise (rs : List R) : Prop := ∀ i j (hj : j < rs.length) (hij : i < j), klt rs[j].f rs[i].f = false
/-- What the sort leaves of own flights: only the block of type 70 that v names has changed. -/
def SortIs (w : World) (base : Nat) (v : Value) (rs : List R) (e : Ending) (w' : World) : Prop :=
  e = .returned (.tuple #[]) ∧ ∃ rs', rs'.Perm rs ∧ Rise rs' ∧ Own w' base v rs' ∧ Rw.Fr (fun k => base ≤ k ∧ ∃ cur, w.heap[k]? = some (.cells cur 70 (0, 0))) w w'
end Fl
theorem sortOwn_any (base : Nat) (v : Value) (rs : List Fl.R) (w : World) (h : Fl.Own w base v rs) (hl : rs.length ≤ 3000) :
    Calls Tryz.prog 46 #[v, .func (.func 47) #[] #[]] w (Fl.SortIs w base v rs) := by
  obtain ⟨_, ⟨hv, h0⟩ | ⟨g, cap, cur, hv, hg, hh, hcap, hc2, hsz, htk⟩⟩ := h.row
  · have h1 : rs = [] := List.eq_nil_of_length_eq_zero h0
    subst h1 hv
    exact (Go.Proofs.AnyF.slices_SortFunc_none Tryz.sortF none 0 _ w).mono fun e w' ⟨he, hw⟩ => ⟨he, [], .refl _, (fun i j hj => absurd hj (by simp)), hw ▸ h, hw ▸ Rw.Fr.refl _ _⟩
  · subst hv
    have := sortF_any g 0 cap rs.toArray w (Fl.holds_of hh htk) (Rw.lt_of_some hh) (by simp; omega)
    simp only [List.size_toArray] at this
    refine this.mono fun e w' ⟨he, d', n, os, hp, hs, hw⟩ => ⟨he, d'.toList, ?_⟩
    obtain ⟨hz, _, hpm⟩ := hp
    have hz' : d'.size = rs.length := by simpa using hz
    have hperm : d'.toList.Perm rs := by
      have e1 : (d'.extract 0 rs.length).toList = d'.toList := by rw [← hz']; simp
      have e2 : (rs.toArray.extract 0 rs.length).toList = rs := by simp
      rw [e1, e2] at hpm
      exact hpm
    have hfr : Rw.Fr (fun k => base ≤ k ∧ ∃ cur, w.heap[k]? = some (.cells cur 70 (0, 0))) w w' := by
      rw [hw]
      exact (Rw.Fr.refl _ w).trans (Fl.sortWorld_fr w g n d' os) (fun k _ hk => by
        have hk : k = g := hk
        subst hk
        exact ⟨hg, cur, hh⟩)
    refine ⟨hperm, ?_, ?_, hfr⟩
    · intro i j hj hij
      have hj' : j < d'.size := by simpa using hj
      have := hs i j (Nat.zero_le _) hij (by omega)
      rw [getElem!_pos d' j hj', getElem!_pos d' i (by omega)] at this
      rw [Fl.ltOf_cmpR] at this
      simpa using this
    · have hb := Fl.sortWorld_block w g n d' os cur hh
      rw [← hw] at hb
      have hfs : (flatK Fl.enc 9 d').size = rs.length * 9 := by simp [hz']
      obtain ⟨t1, t2⟩ := Fl.putCells_take cur (flatK Fl.enc 9 d') (by rw [hfs, hsz]; exact Nat.mul_le_mul_right 9 hcap)
      refine ⟨⟨by rw [Fl.flat_len], .inr ⟨g, cap, _, ?_, hg, hb, ?_, hc2, by rw [t2, hsz], ?_⟩⟩, fun r hr => ?_, fun r hr => h.wf r (hperm.mem_iff.1 hr)⟩
      · rw [show d'.toList.length = rs.length by simpa using hz']
      · rw [show d'.toList.length = rs.length by simpa using hz']; exact hcap
      · rw [show d'.toList.length = rs.length by simpa using hz', ← hfs, t1]
        exact Fl.flatK_flat d'.toList
      · refine ((h.cls r (hperm.mem_iff.1 hr)).kept fun k c h1 h2 h3 => hfr.block k h2 ?_).more (Nat.le_refl _) hfr.size
        rintro ⟨_, c', h4⟩
        rw [h3] at h4
        cases h4
end Go.Proofs.YtfodabbmjggieaaGreat
namespace Go.Proofs.YtfodabbmjggieaaGreat
open Go.RowKit Go.WideMaps
set_option linter.unusedVariables false

namespace Fl
/-- The entries of the index of the first flights. -/
def ent (rs : List R) : List (Value × Value) := rs.mapIdx fun i r => (kv r.f, .int .i64 i)
theorem ent_len (rs : List R) : (ent rs).length = rs.length := by simp [ent]
theorem ent_append (rs : List R) (r : R) : ent (rs ++ [r]) = ent rs ++ [(kv r.f, .int .i64 rs.length)] := by
  simp [ent, List.mapIdx_append]
theorem ent_get (rs : List R) (j : Nat) (hj : j < rs.length) : (ent rs)[j]? = some (kv rs[j].f, .int .i64 j) := by
  simp [ent, hj]
theorem ent_mem {rs : List R} {p : Value × Value} (h : p ∈ ent rs) : ∃ (j : Nat) (hj : j < rs.length), p = (kv rs[j].f, .int .i64 j) := by
  obtain ⟨j, hj⟩ := List.mem_iff_getElem?.1 h
  have hl : j < rs.length := by have := (List.getElem?_eq_some_iff.1 hj).1; rwa [ent_len] at this
  rw [ent_get rs j hl] at hj
  exact ⟨j, hl, by injection hj with hj; exact hj.symm⟩
def ks (rs : List R) : List Value := rs.map fun r => kv r.f
/-- What the index holds of the first k flights. -/
def Ix (rs : List R) (k : Nat) (l : List (Value × Value)) : Prop :=
  (l = ent (rs.take k) ∧ (ks (rs.take k)).Nodup) ∨ (l.length < k ∧ ¬ (ks (rs.take k)).Nodup)
theorem Ix.zero (rs : List R) : Ix rs 0 [] := .inl ⟨rfl, by simp [ks]⟩
theorem Ix.step {rs : List R} {k : Nat} {l l' : List (Value × Value)} (h : Ix rs k l) (hk : k < rs.length)
    (hu : ((∀ p ∈ l, p.1 ≠ kv rs[k].f) ∧ l' = l ++ [(kv rs[k].f, .int .i64 k)]) ∨ ∃ (j : Nat) (u : Value), l[j]? = some (kv rs[k].f, u) ∧ l' = l.set j (kv rs[k].f, .int .i64 k)) : Ix rs (k + 1) l' := by
  have htk : rs.take (k + 1) = rs.take k ++ [rs[k]] := List.take_succ_eq_append_getElem hk
  have hks : ks (rs.take (k + 1)) = ks (rs.take k) ++ [kv rs[k].f] := by rw [htk]; unfold ks; rw [List.map_append]; rfl
  have hlen : (rs.take k).length = k := by rw [List.length_take, Nat.min_eq_left (Nat.le_of_lt hk)]
  rcases h with ⟨rfl, hn⟩ | ⟨hl, hn⟩
  · rcases hu with ⟨h1, rfl⟩ | ⟨j, u, h1, rfl⟩
    · refine .inl ⟨by rw [htk, ent_append, hlen], ?_⟩
      rw [hks, List.nodup_append]
      refine ⟨hn, by simp, fun a ha b hb => ?_⟩
      simp at hb
      subst hb
      obtain ⟨r, hr, rfl⟩ := List.mem_map.1 ha
      obtain ⟨j, hj, rfl⟩ := List.getElem_of_mem hr
      exact h1 (kv (rs.take k)[j].f, .int .i64 j) (List.mem_iff_getElem?.2 ⟨j, ent_get _ j hj⟩)
    · refine .inr ⟨by rw [List.length_set, ent_len, hlen]; omega, fun hc => ?_⟩
      rw [hks, List.nodup_append] at hc
      have hm : (kv rs[k].f, u) ∈ ent (rs.take k) := List.mem_iff_getElem?.2 ⟨j, h1⟩
      obtain ⟨i, hi, he⟩ := ent_mem hm
      injection he with he _
      exact hc.2.2 (kv rs[k].f) (by rw [he]; exact List.mem_map.2 ⟨_, List.getElem_mem hi, rfl⟩) _ (by simp) rfl
  · refine .inr ⟨?_, fun hc => hn ?_⟩
    · rcases hu with ⟨h1, rfl⟩ | ⟨j, u, h1, rfl⟩
      · simp; omega
      · simp; omega
    · rw [hks, List.nodup_append] at hc
      exact hc.1
/-- A table at p. -/
structure Tab (w : World) (base p : Nat) (rs : List R) : Prop where
  at_ : ∃ A cap m, Rw.Blk w p 116 [.slice A rs.length cap, .map (some m)] ∧ Own w base (.slice A rs.length cap) rs ∧ Mp.MapL Tryz.prog 33 w m (ent rs) ∧ base ≤ m
  lo : base ≤ p
  nod : (ks rs).Nodup
  rise : Rise rs
/-- What New answers of flights that are right. -/
def NewIs (w : World) (rs : List R) (e : Ending) (w' : World) : Prop :=
  ((ks rs).Nodup ∧ ∃ p rs', e = .returned (.tuple #[.pointer (some ⟨p, 0, none⟩), .int .i64 0]) ∧ (rs'.map R.f).Perm (rs.map R.f) ∧ Tab w' w.heap.size p rs' ∧ Below w.heap.size w w') ∨
  (¬ (ks rs).Nodup ∧ e = .returned (.tuple #[.pointer none, .int .i64 8]) ∧ Below w.heap.size w w')
theorem ks_perm {rs rs' : List R} (h : (rs'.map R.f).Perm (rs.map R.f)) : (ks rs').Nodup ↔ (ks rs).Nodup := by
  have : (ks rs').Perm (ks rs) := by
    have := h.map kv
    simpa [ks, List.map_map, Function.comp_def] using this
  exact this.nodup_iff
/-- Behind copies and the map's making. -/
def Mid (w : World) (fs : List F) (n : Nat) (s : Value) (wx : World) : Prop :=
  ∃ p m A cap rs', s = .pointer (some ⟨p, 0, none⟩) ∧ Rw.Blk wx p 116 [.slice A n cap, .map (some m)] ∧ Own wx w.heap.size (.slice A n cap) rs' ∧ Mp.MapL Tryz.prog 33 wx m [] ∧ rs'.map R.f = fs ∧ w.heap.size ≤ p ∧ w.heap.size ≤ m ∧ Below w.heap.size w wx
theorem Own.low {w : World} {base base' : Nat} {v : Value} {rs : List R} (h : Own w base v rs) (hb : base' ≤ base) : Own w base' v rs where
  row := by
    obtain ⟨h1, h2 | ⟨g, cap, cur, hv, hg, h3⟩⟩ := h.row
    · exact ⟨h1, .inl h2⟩
    · exact ⟨h1, .inr ⟨g, cap, cur, hv, by omega, h3⟩⟩
  cls r hr := (h.cls r hr).more hb (Nat.le_refl _)
  wf := h.wf
theorem Mid.made1 {w W w4 : World} {fs : List F} {n cap1 : Nat} {A1 : Option Addr} {rs1 : List R} (hbr : Below w.heap.size w W) (H1 : rs1.map R.f = fs) (H2 : Own w4 W.heap.size (.slice A1 n cap1) rs1) (hb4 : Below W.heap.size W w4) :
    Mid w fs n (.pointer (some ⟨w4.heap.size + 1, 0, none⟩)) ((w4.alloc (.map #[] 0)).alloc (.cells #[.slice A1 n cap1, .map (some w4.heap.size)] 116)) := by
  have b1 : Below w4.heap.size w4 (w4.alloc (.map #[] 0)) := (Below.refl _ _).alloc (Nat.le_refl _) _
  have z1 : (w4.alloc (.map #[] 0)).heap.size = w4.heap.size + 1 := by simp
  have b2 : Below (w4.alloc (.map #[] 0)).heap.size (w4.alloc (.map #[] 0)) ((w4.alloc (.map #[] 0)).alloc (.cells #[.slice A1 n cap1, .map (some w4.heap.size)] 116)) := (Below.refl _ _).alloc (Nat.le_refl _) _
  have hz := hbr.size
  have hz4 := hb4.size
  have hk := Rw.Blk.made (w4.alloc (.map #[] 0)) 116 [.slice A1 n cap1, .map (some w4.heap.size)]
  rw [z1] at hk
  exact ⟨w4.heap.size + 1, w4.heap.size, A1, cap1, rs1, rfl, hk, ((H2.low hz).below b1).below b2, (Mp.MapL.made Tryz.prog 33 w4).kept (b2.block _ (by omega)), H1, by omega, by omega, (hbr.trans (hb4.mono hz)).trans ((b1.trans (b2.mono b1.size)).mono (by omega))⟩
theorem Mid.made2 {w W w4 : World} {fs : List F} {n cap1 : Nat} {A1 : Option Addr} {rs1 : List R} (hbr : Below w.heap.size w W) (H1 : rs1.map R.f = fs) (H2 : Own w4 (W.alloc (.map #[] 0)).heap.size (.slice A1 n cap1) rs1) (hb4 : Below (W.alloc (.map #[] 0)).heap.size (W.alloc (.map #[] 0)) w4) :
    Mid w fs n (.pointer (some ⟨w4.heap.size, 0, none⟩)) (w4.alloc (.cells #[.slice A1 n cap1, .map (some W.heap.size)] 116)) := by
  have b1 : Below w4.heap.size w4 (w4.alloc (.cells #[.slice A1 n cap1, .map (some W.heap.size)] 116)) := (Below.refl _ _).alloc (Nat.le_refl _) _
  have z1 : (W.alloc (.map #[] 0)).heap.size = W.heap.size + 1 := by simp
  have b0 : Below W.heap.size W (W.alloc (.map #[] 0)) := (Below.refl _ _).alloc (Nat.le_refl _) _
  have hz := hbr.size
  have hz4 := hb4.size
  have hk := Rw.Blk.made w4 116 [.slice A1 n cap1, .map (some W.heap.size)]
  exact ⟨w4.heap.size, W.heap.size, A1, cap1, rs1, rfl, hk, (H2.low (by omega)).below b1, ((Mp.MapL.made Tryz.prog 33 W).kept (hb4.block _ (by omega))).kept (b1.block _ (by omega)), H1, by omega, by omega, ((hbr.trans (b0.mono hz)).trans (hb4.mono (by omega))).trans (b1.mono (by omega))⟩
theorem Own.only {w w' : World} {base m : Nat} {v : Value} {rs : List R} {l : List (Value × Value)} (h : Own w base v rs) (hm : Mp.MapL Tryz.prog 33 w m l) (ho : Mp.Only m w w') : Own w' base v rs := by
  obtain ⟨es, ck, hb, _⟩ := hm
  have hne : ∀ (g : Nat) (cur : Array Value) (t : TypeId), w.heap[g]? = some (Obj.cells cur t (0, 0)) → w'.heap[g]? = w.heap[g]? := fun g cur t hg => ho.block g (fun e => by subst e; rw [hb] at hg; cases hg)
  refine ⟨?_, fun r hr => ((h.cls r hr).kept fun k cur _ _ hk => hne k cur _ hk).more (Nat.le_refl _) (Nat.le_of_eq ho.size.symm), h.wf⟩
  obtain ⟨h1, h2 | ⟨g, cap, cur, hv, hg, hh, h3⟩⟩ := h.row
  · exact ⟨h1, .inl h2⟩
  · exact ⟨h1, .inr ⟨g, cap, cur, hv, hg, (hne g cur _ hh).trans hh, h3⟩⟩
theorem blk_only {w w' : World} {m p : Nat} {t : TypeId} {cs : List Value} {l : List (Value × Value)} (h : Rw.Blk w p t cs) (hm : Mp.MapL Tryz.prog 33 w m l) (ho : Mp.Only m w w') : Rw.Blk w' p t cs := by
  obtain ⟨es, ck, hb, _⟩ := hm
  exact h.kept (ho.block p (fun e => by subst e; unfold Rw.Blk at h; rw [hb] at h; cases h))
theorem Own.at {w : World} {base n cap : Nat} {A : Option Addr} {rs : List R} (h : Own w base (.slice A n cap) rs) (k : Nat) (hk : k < rs.length) : ∃ b, A = some ⟨b, 0, none⟩ ∧ b < w.heap.size ∧ w.rangeAt b (k * 9) (enc rs[k]) := by
  obtain ⟨A', cap', hv, hF⟩ := h.fls
  injection hv with e1 e2 e3
  subst e1
  obtain ⟨_, ⟨hv', h0⟩ | ⟨g, cap2, cur, hv', hg, hh, h3⟩⟩ := h.row
  · omega
  · injection hv' with e1 e2 e3
    subst e1
    obtain ⟨b, off, e, hb, hc⟩ := hF.row (by omega)
    injection e with e
    injection e with e4 e5 e6
    subst e4 e5
    exact ⟨g, rfl, hb, by have := hc k hk; rwa [Nat.zero_add] at this⟩
theorem mapl_size {w : World} {m : Nat} {l : List (Value × Value)} (h : Mp.MapL Tryz.prog 33 w m l) : ∃ es ck, w.heap[m]? = some (.map es ck) ∧ es.size = l.length := by
  obtain ⟨es, ck, hb, he, _⟩ := h
  exact ⟨es, ck, hb, by rw [← he]; simp⟩
end Fl
end Go.Proofs.YtfodabbmjggieaaGreat
namespace Go.Proofs.YtfodabbmjggieaaGreat
open Go.RowKit Go.WideMaps
set_option linter.unusedVariables false

theorem new_many (A : Option Addr) (n cap : Nat) (w : World) (hn : 64 < n) (hn2 : n ≤ 9223372036854775807) : Calls Tryz.prog 27 #[.slice A n cap] w fun e w' => e = .returned (.tuple #[.pointer none, .int .i64 2]) ∧ w = w' := by
  go_enter Tryz.func27, Tryz.ntmps27
  go_wp2
  go_ret2
  exact ⟨rfl, rfl⟩
set_option maxHeartbeats 1000000 in
theorem new_wrong (A : Option Addr) (rs : List Fl.R) (cap B : Nat) (w : World) (h : Fl.Fls w B A rs) (hB : B ≤ w.heap.size) (hn : rs.length ≤ 64) (hr : ∃ r ∈ rs, Fl.right r.f = false) :
    Calls Tryz.prog 27 #[.slice A rs.length cap] w fun e w' => e = .returned (.tuple #[.pointer none, .int .i64 4]) ∧ Below w.heap.size w w' := by
  obtain ⟨r1, hm1, hr1⟩ := hr
  obtain ⟨q, hq, hq1⟩ := List.getElem_of_mem hm1
  have HQ : Hid (Fl.right rs[q].f = false) := show _ = _ by rw [hq1]; exact hr1
  clear hr1 hq1 hm1
  have HF := Lib.hid h
  clear h
  go_enter Tryz.func27, Tryz.ntmps27
  go_wp2
  go_loopw [15] (fun i wr => ∃ (k : Nat), k ≤ q ∧ i = .int .i64 k ∧ Below w.heap.size w wr) (fun i _ => rs.length - (intOf i).toNat)
  case atStart => exact ⟨0, by omega, rfl, Below.refl _ _⟩
  case round =>
    obtain ⟨k, hk, rfl, hbr⟩ := hrel
    have hlt : k < rs.length := by omega
    obtain ⟨b, off, hA, hbB, hrow⟩ := HF.out.row (by omega)
    have HR : Hid (wr.rangeAt b (off + k * 9) (Fl.enc rs[k])) := fun j v hv => (hbr.cell (p := ⟨b, _, none⟩) (show b < w.heap.size by omega)).trans (hrow k hlt j v hv)
    have HC := Lib.hid (HF.out.cls rs[k] (List.getElem_mem hlt))
    have HW := Lib.hid (HF.out.wf rs[k] (List.getElem_mem hlt))
    have HQ2 : Hid (k = q → Fl.right rs[k].f = false) := fun e => by subst e; exact HQ.out
    subst hA
    clear hrow
    generalize hr : rs[k] = r at *
    clear hr
    have HCK : Hid (∀ w3, Below w.heap.size w w3 → Calls Tryz.prog 44 #[Fl.fv r] w3 fun e w' => e = .returned (.int .i64 (Fl.code r.f)) ∧ Below w3.heap.size w3 w') := fun w3 b03 => check_any r B w3 HW.out (HC.out.below b03 hB) (Nat.le_trans hB b03.size)
    cases hc : Fl.right r.f with
    | true =>
      have HNQ : Hid (k ≠ q) := fun e => by have := HQ2.out e; rw [hc] at this; cases this
      have HCD : Hid (Fl.code r.f = 0) := show _ = _ by simp [Fl.code, hc]
      rw [HCD.out] at HCK
      clear hc
      go_wp2_with (first
        | (refine wpList_load_mid rfl 70 _ rfl b (off + k * 9) rfl (Fl.enc r) _ HR.out Fl.uF Fl.rF Fl.iF ?_)
        | (refine Rw.wpList_alloc rfl 70 rfl (Fl.enc Fl.r0) Fl.zF ?_; intro w2 K2 hb2 hz2; clear hz2)
        | (refine Rw.wpList_store_whole rfl 70 _ _ rfl wr.heap.size rfl (Fl.enc r) rfl _ _ K2 Fl.iF rfl (Fl.enc_one _) ?_; intro w3 K3 f3; have b3 : Below wr.heap.size wr w3 := hb2.trans (f3.below hb2.size (fun k hk => by have : k = wr.heap.size := hk; omega)); have b03 := hbr.trans (b3.mono hbr.size))
        | (refine wpList_load_mid rfl 70 _ rfl wr.heap.size 0 rfl (Fl.enc r) _ K3.range Fl.uF Fl.rF Fl.iF ?_)
        | (go_at_call 44; refine (HCK.out w3 b03).mono ?_; rintro e w4 ⟨rfl, hb4⟩; have b04 := b03.trans (hb4.mono b03.size)))
      go_roundw
      case rel => exact ⟨k + 1, by have := HNQ.out; omega, by go_num, b04⟩
      case measure => simp [intOf]; omega
    | false =>
      have HCD : Hid (Fl.code r.f = 4) := show _ = _ by simp [Fl.code, hc]
      rw [HCD.out] at HCK
      clear hc
      go_wp2_with (first
        | (refine wpList_load_mid rfl 70 _ rfl b (off + k * 9) rfl (Fl.enc r) _ HR.out Fl.uF Fl.rF Fl.iF ?_)
        | (refine Rw.wpList_alloc rfl 70 rfl (Fl.enc Fl.r0) Fl.zF ?_; intro w2 K2 hb2 hz2; clear hz2)
        | (refine Rw.wpList_store_whole rfl 70 _ _ rfl wr.heap.size rfl (Fl.enc r) rfl _ _ K2 Fl.iF rfl (Fl.enc_one _) ?_; intro w3 K3 f3; have b3 : Below wr.heap.size wr w3 := hb2.trans (f3.below hb2.size (fun k hk => by have : k = wr.heap.size := hk; omega)); have b03 := hbr.trans (b3.mono hbr.size))
        | (refine wpList_load_mid rfl 70 _ rfl wr.heap.size 0 rfl (Fl.enc r) _ K3.range Fl.uF Fl.rF Fl.iF ?_)
        | (go_at_call 44; refine (HCK.out w3 b03).mono ?_; rintro e w4 ⟨rfl, hb4⟩; have b04 := b03.trans (hb4.mono b03.size)))
      go_ret2
      exact ⟨rfl, b04⟩
end Go.Proofs.YtfodabbmjggieaaGreat
namespace Go.Proofs.YtfodabbmjggieaaGreat
open Go.RowKit Go.WideMaps
set_option linter.unusedVariables false

namespace Fl
theorem uMap : Tryz.prog.underlying 114 = some (.map 33 3) := by kernel_rfl
theorem mkMap (n : Nat) (h : n ≤ 64) (w : World) : (Instr.makeMap 114 (some (.int .i64 n))).run Tryz.prog w = .ok (.map (some w.heap.size)) (w.alloc (.map #[] 0)) := by
  simp [Instr.makeMap, go_sem]
theorem lenMap {w : World} {m : Nat} {es : Array MapEntry} {ck : Nat} (h : w.heap[m]? = some (.map es ck)) : (Builtin.len_ #[114] 3 #[.map (some m)]).run Tryz.prog w = .ok (.int .i64 es.size) w := by
  simp [Builtin.len_, run_underlying uMap, MapKept.run_getObj_map h, go_sem]
end Fl
set_option maxHeartbeats 1000000 in
set_option maxRecDepth 20000 in
theorem new_right (A : Option Addr) (rs : List Fl.R) (cap B : Nat) (w : World) (h : Fl.Fls w B A rs) (hB : B ≤ w.heap.size) (hn : rs.length ≤ 64) (hr : ∀ r ∈ rs, Fl.right r.f = true) (hl : ∀ r ∈ rs, r.f.cls.length ≤ 3000) :
    Calls Tryz.prog 27 #[.slice A rs.length cap] w (Fl.NewIs w rs) := by
  have HRT := Lib.hid hr
  have HF := Lib.hid h
  have HMM := Lib.hid (Fl.mkMap rs.length hn)
  have HCP := Lib.hid (fun w1 (b1 : Below w.heap.size w w1) => copies_any A rs cap B w1 (h.below b1 hB) (Nat.le_trans hB b1.size) (by omega) (fun r hr1 => ⟨by
    have := hr r hr1
    unfold Fl.right Fl.clsOk at this
    simp only [Bool.and_eq_true, decide_eq_true_eq] at this
    have := this.1.2.1.1
    omega, hl r hr1⟩))
  clear h hr hl
  go_enter Tryz.func27, Tryz.ntmps27
  go_wp2
  go_loopw [15] (fun i wr => ∃ (k : Nat), k ≤ rs.length ∧ i = .int .i64 k ∧ Below w.heap.size w wr) (fun i _ => rs.length - (intOf i).toNat)
  case atStart => exact ⟨0, by omega, rfl, Below.refl _ _⟩
  case round =>
    obtain ⟨k, hk, rfl, hbr⟩ := hrel
    by_cases hlt : k < rs.length
    · obtain ⟨b, off, hA, hbB, hrow⟩ := HF.out.row (by omega)
      have HR : Hid (wr.rangeAt b (off + k * 9) (Fl.enc rs[k])) := fun j v hv => (hbr.cell (p := ⟨b, _, none⟩) (show b < w.heap.size by omega)).trans (hrow k hlt j v hv)
      have HC := Lib.hid (HF.out.cls rs[k] (List.getElem_mem hlt))
      have HW := Lib.hid (HF.out.wf rs[k] (List.getElem_mem hlt))
      have HCD : Hid (Fl.code rs[k].f = 0) := show _ = _ by simp [Fl.code, HRT.out _ (List.getElem_mem hlt)]
      subst hA
      clear hrow
      generalize hr : rs[k] = r at *
      clear hr
      have HCK : Hid (∀ w3, Below w.heap.size w w3 → Calls Tryz.prog 44 #[Fl.fv r] w3 fun e w' => e = .returned (.int .i64 (Fl.code r.f)) ∧ Below w3.heap.size w3 w') := fun w3 b03 => check_any r B w3 HW.out (HC.out.below b03 hB) (Nat.le_trans hB b03.size)
      rw [HCD.out] at HCK
      go_wp2_with (first
        | (refine wpList_load_mid rfl 70 _ rfl b (off + k * 9) rfl (Fl.enc r) _ HR.out Fl.uF Fl.rF Fl.iF ?_)
        | (refine Rw.wpList_alloc rfl 70 rfl (Fl.enc Fl.r0) Fl.zF ?_; intro w2 K2 hb2 hz2; clear hz2)
        | (refine Rw.wpList_store_whole rfl 70 _ _ rfl wr.heap.size rfl (Fl.enc r) rfl _ _ K2 Fl.iF rfl (Fl.enc_one _) ?_; intro w3 K3 f3; have b3 : Below wr.heap.size wr w3 := hb2.trans (f3.below hb2.size (fun k hk => by have : k = wr.heap.size := hk; omega)); have b03 := hbr.trans (b3.mono hbr.size))
        | (refine wpList_load_mid rfl 70 _ rfl wr.heap.size 0 rfl (Fl.enc r) _ K3.range Fl.uF Fl.rF Fl.iF ?_)
        | (go_at_call 44; refine (HCK.out w3 b03).mono ?_; rintro e w4 ⟨rfl, hb4⟩; have b04 := b03.trans (hb4.mono b03.size)))
      go_roundw
      case rel => exact ⟨k + 1, by omega, by go_num, b04⟩
      case measure => simp [intOf]; omega
    · go_wp2
      go_cut [7] from 25 (fun s7 wx => Hid (Fl.Mid w (rs.map Fl.R.f) rs.length s7 wx))
      case first =>
        have hmm := HMM.out
        go_region_with (go_at_call 45; refine (HCP.out _ (by first | exact hbr.drew | exact (hbr.alloc hbr.size _).drew | exact (hbr.drew.alloc hbr.size _))).mono ?_; rintro e w4 ⟨A1, cap1, rs1, rfl, H1, H2, hb4⟩)
        all_goals go_wp2
        all_goals go_meet
        · exact Fl.Mid.made1 hbr.drew H1 (by simpa using H2) hb4
        · exact Fl.Mid.made2 (W := wr) hbr H1 (by simpa using H2) ⟨hb4.os, hb4.tape, hb4.output, hb4.size, hb4.block⟩
      case rest =>
        obtain ⟨wb, ewb⟩ : ∃ wb, wb = wc := ⟨_, rfl⟩
        subst ewb
        obtain ⟨p, m, A1, cap1, rs1, rfl, HBk, HO, HMp, HFs, hp0, hm0, hbb⟩ := hcut.out
        have HBk1 := Lib.hid HBk
        have HO1 := Lib.hid HO
        have HMp1 := Lib.hid HMp
        have HFs1 := Lib.hid HFs
        have c0 : wb.cell? ⟨p, 0, none⟩ = some (.slice A1 rs.length cap1) := (HBk.cell 0).trans rfl
        have hl1 : rs1.length = rs.length := by have := congrArg List.length HFs; simpa using this
        have HSO := Lib.hid (sortOwn_any w.heap.size _ rs1 wb HO (by omega))
        clear HBk HO HMp HFs hcut
        go_wp2_with (first
          | (go_at_call 46; refine HSO.out.mono ?_; rintro e w5 ⟨rfl, rs2, HP2, HRi, HO2, f5⟩; have HP3 := Lib.hid HP2; have HRi2 := Lib.hid HRi; have HO3 := Lib.hid HO2; have HBk2 : Hid (Rw.Blk w5 p 116 [.slice A1 rs.length cap1, .map (some m)]) := HBk1.out.kept (f5.block p HBk1.out.lt (by rintro ⟨_, c', h4⟩; rw [show wb.heap[p]? = _ from HBk1.out] at h4; cases h4)); have c05 : w5.cell? ⟨p, 0, none⟩ = some (.slice A1 rs.length cap1) := (HBk2.out.cell 0).trans rfl; clear HP2 HRi HO2))
        have HB5 : Hid (Below w.heap.size w w5) := hbb.trans (f5.below hbb.size (fun k hk => hk.1))
        have HM5 : Hid (Mp.MapL Tryz.prog 33 w5 m []) := HMp1.out.kept (f5.block m HMp1.out.lt (by rintro ⟨_, c', h4⟩; obtain ⟨es, ck, h5, _⟩ := HMp1.out; rw [h5] at h4; cases h4))
        have HL2 : Hid (rs2.length = rs.length) := show _ = _ by rw [HP3.out.length_eq, hl1]
        have HPP : Hid ((rs2.map Fl.R.f).Perm (rs.map Fl.R.f)) := by
          have := HP3.out.map Fl.R.f
          rw [HFs1.out] at this
          exact this
        clear c0 c05 f5 HSO HO1 HMp1 HBk1 HFs1 HP3 hbb
        go_loopw [42] (fun i wr2 => ∃ (k2 : Nat) (l : List (Value × Value)), k2 ≤ rs.length ∧ i = .int .i64 k2 ∧ Hid (Fl.Ix rs2 k2 l) ∧ Hid (Rw.Blk wr2 p 116 [.slice A1 rs.length cap1, .map (some m)]) ∧ Hid (Fl.Own wr2 w.heap.size (.slice A1 rs.length cap1) rs2) ∧ Hid (Mp.MapL Tryz.prog 33 wr2 m l) ∧ Hid (Below w.heap.size w wr2)) (fun i _ => rs.length - (intOf i).toNat)
        case atStart => exact ⟨0, [], by omega, rfl, Fl.Ix.zero _, HBk2, HO3, HM5, HB5⟩
        case round =>
          obtain ⟨wr2, ewr2⟩ : ∃ wr2, wr2 = wr := ⟨_, rfl⟩
          subst ewr2
          obtain ⟨k2, l, hk2, rfl, HIx, HBl, HOw, HMl, HBe⟩ := hrel
          by_cases hlt2 : k2 < rs.length
          · have hlt3 : k2 < rs2.length := by rw [HL2.out]; exact hlt2
            obtain ⟨b, hA, hbB, hrow⟩ := HOw.out.at k2 hlt3
            have HR := Lib.hid hrow
            have HW := Lib.hid (HOw.out.wf rs2[k2] (List.getElem_mem hlt3))
            have HST : Hid (∀ l', (((∀ p ∈ l, p.1 ≠ Fl.kv rs2[k2].f) ∧ l' = l ++ [(Fl.kv rs2[k2].f, .int .i64 k2)]) ∨ ∃ (j : Nat) (u : Value), l[j]? = some (Fl.kv rs2[k2].f, u) ∧ l' = l.set j (Fl.kv rs2[k2].f, .int .i64 k2)) → Fl.Ix rs2 (k2 + 1) l') := fun l' hu => HIx.out.step hlt3 hu
            subst hA
            clear hrow
            generalize hr : rs2[k2] = r at *
            clear hr
            have hbp : p < wr2.heap.size := HBl.out.lt
            go_wp2_with (first
              | (refine wpList_load_mid rfl 70 _ rfl b (k2 * 9) rfl (Fl.enc r) _ HR.out Fl.uF Fl.rF Fl.iF ?_)
              | (refine Rw.wpList_alloc rfl 70 rfl (Fl.enc Fl.r0) Fl.zF ?_; intro w2 K2 hb2 hz2; clear hz2)
              | (refine Rw.wpList_store_whole rfl 70 _ _ rfl wr2.heap.size rfl (Fl.enc r) rfl _ _ K2 Fl.iF rfl (Fl.enc_one _) ?_; intro w3 K3 f3; have b3 : Below wr2.heap.size wr2 w3 := hb2.trans (f3.below hb2.size (fun k hk => by have : k = wr2.heap.size := hk; omega))))
            have hc0 : w3.cell? ⟨wr2.heap.size, 0, none⟩ = some (.string r.f.car) := (K3.cell 0).trans rfl
            have hc1 : w3.cell? ⟨wr2.heap.size, 1, none⟩ = some (.int .i64 r.f.num) := (K3.cell 1).trans rfl
            have HBl3 := Lib.hid (HBl.out.below' b3)
            have hcp : w3.cell? ⟨p, 1, none⟩ = some (.map (some m)) := (HBl3.out.cell 1).trans rfl
            have HM3 : Hid (Mp.MapL Tryz.prog 33 w3.drew m l) := HMl.out.kept (b3.block m HMl.out.lt)
            have HO33 : Hid (Fl.Own w3.drew w.heap.size (.slice (some ⟨b, 0, none⟩) rs.length cap1) rs2) := (HOw.out.below b3).below ⟨rfl, rfl, rfl, Nat.le_refl _, fun _ _ => rfl⟩
            obtain ⟨w6, l6, hrun, HM6, HOn, HU⟩ := HM3.out.upd Fl.lawKey (Fl.kv_key HW.out.car HW.out.n0 HW.out.n1) Fl.uMap (.int .i64 k2)
            unfold Fl.kv at hrun
            have HI6 := Lib.hid (HST.out l6 HU)
            have HM66 := Lib.hid HM6
            have HO6 := Lib.hid (HO33.out.only HM3.out HOn)
            have HB6 := Lib.hid (Fl.blk_only (show Rw.Blk w3.drew p _ _ from HBl3.out) HM3.out HOn)
            have HBe6 : Hid (Below w.heap.size w w6) := (HBe.out.trans (b3.mono HBe.out.size)).drew.trans (HOn.below hm0)
            clear HU HM6 HOn
            go_region
            all_goals go_wp2
            all_goals first
              | exact ⟨⟨k2 + 1, l6, by omega, by go_num, HI6, HB6, HO6, HM66, HBe6⟩, by simp [intOf]; omega⟩
              | (go_roundw <;> first | exact ⟨k2 + 1, l6, by omega, by go_num, HI6, HB6, HO6, HM66, HBe6⟩ | (simp [intOf]; omega))
          · have hkn : k2 = rs.length := by omega
            obtain ⟨es, ck, hhm, hes⟩ := Fl.mapl_size HMl.out
            have hcp : wr2.cell? ⟨p, 1, none⟩ = some (.map (some m)) := (HBl.out.cell 1).trans rfl
            rcases HIx.out with ⟨hl, hnd⟩ | ⟨hl, hnd⟩
            · rw [List.take_of_length_le (by rw [HL2.out]; omega)] at hl hnd
              have hes2 : es.size = rs.length := by rw [hes, hl, Fl.ent_len, HL2.out]
              have hlm := Fl.lenMap hhm
              rw [hes2] at hlm
              have HL := Lib.hid hl
              have HND := Lib.hid hnd
              clear hl hnd hes
              go_wp2
              go_ret2
              exact .inl ⟨(Fl.ks_perm HPP.out).1 HND.out, p, rs2, rfl, HPP.out, ⟨⟨A1, cap1, m, by rw [HL2.out]; exact HBl.out, by rw [HL2.out]; exact HOw.out, by rw [← HL.out]; exact HMl.out, hm0⟩, hp0, HND.out, HRi2.out⟩, HBe.out⟩
            · rw [List.take_of_length_le (by rw [HL2.out]; omega)] at hnd
              have hes2 : es.size < rs.length := by rw [hes]; omega
              have hlm := Fl.lenMap hhm
              have HND := Lib.hid hnd
              clear hl hnd hes
              go_wp2
              go_ret2
              exact .inr ⟨fun h => HND.out ((Fl.ks_perm HPP.out).2 h), rfl, HBe.out⟩
end Go.Proofs.YtfodabbmjggieaaGreat
namespace Go.Proofs.YtfodabbmjggieaaGreat
open Go.RowKit Go.WideMaps
set_option linter.unusedVariables false

namespace Fl
theorem zInt (w : World) : (zeroValue 3).run Tryz.prog w = .ok (.int .i64 0) w := by kernel_rfl
theorem zTup (w : World) : (zeroValue 3).run Tryz.prog w = .ok (.int .i64 0) w := zInt w
/-- The key of a car and a number as a flight's. -/
def kf (car : ByteArray) (num : Int) : F := { (default : F) with car := car, num := num }
theorem kv_kf (car : ByteArray) (num : Int) : kv (kf car num) = .agg #[.string car, .int .i64 num] := rfl
theorem kv_isK {f : F} {car : ByteArray} {num : Int} : kv f = kv (kf car num) ↔ isK f car num = true := by
  constructor
  · intro h
    obtain ⟨h1, h2⟩ := kv_inj h
    simp [isK]
    exact ⟨h1, h2⟩
  · intro h
    obtain ⟨h1, h2⟩ := isK_yes h
    simp [kv, kf, h1, h2]
theorem tab_uniq {rs : List R} (hn : (ks rs).Nodup) {i j : Nat} (hi : i < rs.length) (hj : j < rs.length) {car : ByteArray} {num : Int} (h1 : isK rs[i].f car num = true) (h2 : isK rs[j].f car num = true) : i = j := by
  have e : kv rs[i].f = kv rs[j].f := (kv_isK.2 h1).trans (kv_isK.2 h2).symm
  have hl : ∀ {k} (hk : k < rs.length), k < (ks rs).length := fun hk => by simpa [ks] using hk
  rcases Nat.lt_trichotomy i j with h | h | h
  · exact absurd (by simpa [ks] using e) (List.pairwise_iff_getElem.1 hn i j (hl hi) (hl hj) h)
  · exact h
  · exact absurd (by simpa [ks] using e.symm) (List.pairwise_iff_getElem.1 hn j i (hl hj) (hl hi) h)
/-- The look into the index. -/
theorem look_tab {w : World} {m : Nat} {rs : List R} (hn : (ks rs).Nodup) (hm : Mp.MapL Tryz.prog 33 w m (ent rs)) {car : ByteArray} {num : Int} (hs : car.size ≤ 9223372036854775807) (h0 : -9223372036854775808 ≤ num) (h1 : num ≤ 9223372036854775807) :
    (∃ (j : Nat) (hj : j < rs.length), isK rs[j].f car num = true ∧ ∀ W : World, W.heap[m]? = w.heap[m]? → (Instr.lookup 114 (.map (some m)) (.agg #[.string car, .int .i64 num]) true).run Tryz.prog W = .ok (.tuple #[.int .i64 j, .bool true]) W) ∨
    ((∀ r ∈ rs, isK r.f car num = false) ∧ ∀ W : World, W.heap[m]? = w.heap[m]? → (Instr.lookup 114 (.map (some m)) (.agg #[.string car, .int .i64 num]) true).run Tryz.prog W = .ok (.tuple #[.int .i64 0, .bool false]) W) := by
  have hk : Mp.KeyIs Tryz.prog 33 (kv (kf car num)) := kv_key (f := kf car num) hs h0 h1
  rw [← kv_kf]
  have hat : ∀ (j2 : Nat) (v : Value), (ent rs)[j2]? = some (kv (kf car num), v) → ∃ hj : j2 < rs.length, isK rs[j2].f car num = true ∧ v = .int .i64 j2 := fun j2 v h2 => by
    have hj2 : j2 < rs.length := by have := (List.getElem?_eq_some_iff.1 h2).1; rwa [ent_len] at this
    rw [ent_get rs j2 hj2] at h2
    injection h2 with h2
    injection h2 with h2 h3
    exact ⟨hj2, kv_isK.1 h2, h3.symm⟩
  by_cases hex : ∃ r ∈ rs, isK r.f car num = true
  · obtain ⟨r, hr, hi⟩ := hex
    obtain ⟨j, hj, rfl⟩ := List.getElem_of_mem hr
    refine .inl ⟨j, hj, hi, fun W hW => ?_⟩
    rcases (hm.kept hW).look lawKey hk uMap _ (zInt W) with ⟨j2, v, h2, hrn⟩ | ⟨h2, _⟩
    · obtain ⟨hj2, hi2, rfl⟩ := hat j2 v h2
      have := tab_uniq hn hj hj2 hi hi2
      subst this
      exact hrn
    · exact absurd (kv_isK.2 hi) (h2 _ (List.mem_iff_getElem?.2 ⟨j, ent_get _ _ hj⟩))
  · refine .inr ⟨fun r hr => ?_, fun W hW => ?_⟩
    · cases hc : isK r.f car num with
      | false => rfl
      | true => exact absurd ⟨r, hr, hc⟩ hex
    · rcases (hm.kept hW).look lawKey hk uMap _ (zInt W) with ⟨j2, v, h2, hrn⟩ | ⟨h2, hrn⟩
      · obtain ⟨hj2, hi2, rfl⟩ := hat j2 v h2
        exact absurd ⟨_, List.getElem_mem hj2, hi2⟩ hex
      · exact hrn
/-- What the table's find answers. -/
def TFindIs (w : World) (rs : List R) (car : ByteArray) (num : Int) (e : Ending) (w' : World) : Prop :=
  ((∃ (j : Nat) (hj : j < rs.length), isK rs[j].f car num = true ∧ e = .returned (.tuple #[fv rs[j], .bool true])) ∨
   ((∀ r ∈ rs, isK r.f car num = false) ∧ e = .returned (.tuple #[fv r0, .bool false]))) ∧ Below w.heap.size w w'
end Fl
set_option maxHeartbeats 1000000 in
set_option maxRecDepth 20000 in
theorem find_any (base p : Nat) (rs : List Fl.R) (car : ByteArray) (num : Int) (w : World) (h : Fl.Tab w base p rs) (hs : car.size ≤ 9223372036854775807) (h0 : -9223372036854775808 ≤ num) (h1 : num ≤ 9223372036854775807) (hl : rs.length ≤ 1000000) :
    Calls Tryz.prog 77 #[.pointer (some ⟨p, 0, none⟩), .agg #[.string car, .int .i64 num]] w (Fl.TFindIs w rs car num) := by
  obtain ⟨⟨A, cap, m, HB, HO, HM, hm0⟩, hlo, hnod, _⟩ := h
  have HLK := Lib.hid (Fl.look_tab hnod HM hs h0 h1)
  have HML := HM.lt
  have HBL := HB.lt
  have HBh := Lib.hid HB
  have HOh := Lib.hid HO
  clear HM hs h0 h1 hnod HB HO
  obtain ⟨w1, ew1⟩ : ∃ x, x = w.alloc (.cells #[.string car, .int .i64 num] 33) := ⟨_, rfl⟩
  have hb1 : Below w.heap.size w w1 := by rw [ew1]; exact (Below.refl _ _).alloc (Nat.le_refl _) _
  have hz1 : w1.heap.size = w.heap.size + 1 := by rw [ew1]; simp
  have K1 : Rw.Blk w1 w.heap.size 33 [.string car, .int .i64 num] := by rw [ew1]; exact heap_alloc_new w _
  go_enter Tryz.func77, Tryz.ntmps77
  go_wp2_with (first
    | (refine Rw.wpList_alloc rfl 70 rfl (Fl.enc Fl.r0) Fl.zF ?_; intro w2 K2 hb2 hz2))
  rw [← ew1] at K2 hb2 hz2
  rw [hz1] at K2 hz2
  have hz3 : w.heap.size + 1 < w2.heap.size := by omega
  have hb12 := hb1.trans (hb2.mono hb1.size)
  have HK1 := K1.below' hb2
  have HK2 := Lib.hid K2
  have HB2 := Lib.hid hb12
  have q0 : ∀ q, (w2.drewN q).cell? ⟨w.heap.size, 0, none⟩ = some (.string car) := fun q => (HK1.cell 0).trans rfl
  have q1 : ∀ q, (w2.drewN q).cell? ⟨w.heap.size, 1, none⟩ = some (.int .i64 num) := fun q => (HK1.cell 1).trans rfl
  have q2 : ∀ q, (w2.drewN q).cell? ⟨p, 1, none⟩ = some (.map (some m)) := fun q => ((HBh.out.below' hb12).cell 1).trans rfl
  have HBp := Lib.hid (HBh.out.below' hb12)
  have HO2 := Lib.hid (HOh.out.below hb12)
  have hmm := hb12.block m HML
  have HX : Hid (∀ (e : Ending), ((∃ (j : Nat) (hj : j < rs.length), Fl.isK rs[j].f car num = true ∧ e = .returned (.tuple #[Fl.fv rs[j], .bool true])) ∨ ((∀ r ∈ rs, Fl.isK r.f car num = false) ∧ e = .returned (.tuple #[Fl.fv Fl.r0, .bool false]))) → ∀ w', Below w.heap.size w w' → Fl.TFindIs w rs car num e w') := fun e he w' hb => ⟨he, hb⟩
  clear hb1 hb2 ew1 K1 K2 HK1 hz1 hz2
  rcases HLK.out with ⟨j, hj, hi, hrun⟩ | ⟨hno, hrun⟩
  · have hlk : ∀ q, (Instr.lookup 114 (.map (some m)) (.agg #[.string car, .int .i64 num]) true).run Tryz.prog (w2.drewN q) = .ok (.tuple #[.int .i64 j, .bool true]) (w2.drewN q) := fun q => hrun _ hmm
    clear hrun HLK hmm
    have HI := Lib.hid hi
    clear hi
    go_quiet (fail)
    obtain ⟨wy, ewy⟩ : ∃ x, x = w2.drewN nq := ⟨_, rfl⟩
    have hby : Below w2.heap.size w2 wy := by rw [ewy]; exact Fl.below_drewN (Below.refl _ _) _
    obtain ⟨b, hA, hbB, hrow⟩ := HO2.out.at j hj
    have HRy : Hid (wy.rangeAt b (j * 9) (Fl.enc rs[j])) := fun i v hv => (hby.cell (p := ⟨b, _, none⟩) hbB).trans (hrow i v hv)
    have cp : wy.cell? ⟨p, 0, none⟩ = some (.slice A rs.length cap) := ((HBp.out.below' hby).cell 0).trans rfl
    have HKy := Lib.hid (HK2.out.below' hby)
    have HY := Lib.hid (HX.out (.returned (.tuple #[Fl.fv rs[j], .bool true])) (.inl ⟨j, hj, HI.out, rfl⟩))
    rw [← ewy]
    subst hA
    generalize hr : rs[j] = r at *
    clear ewy q0 q1 q2 hlk hrow hr
    go_wp2_with (first
      | (refine wpList_load_mid rfl 70 _ rfl b (j * 9) rfl (Fl.enc r) _ HRy.out Fl.uF Fl.rF Fl.iF ?_)
      | (refine Rw.wpList_store_whole rfl 70 _ _ rfl (w.heap.size + 1) rfl (Fl.enc r) rfl _ _ HKy.out Fl.iF rfl (Fl.enc_one _) ?_; intro w5 K5 f5))
    have hc5 := K5.cell
    have hb5 : Below w.heap.size w w5 := (HB2.out.trans (hby.mono HB2.out.size)).trans (f5.below (B := w.heap.size) (Nat.le_trans HB2.out.size hby.size) (fun k hk => by have : k = w.heap.size + 1 := hk; omega))
    refine bodyPost_ret (v := .tuple #[Fl.fv r, .bool true]) ?_ rfl (HY.out _ hb5)
    simp [results, Tryz.results77, go_sem, hc5, Fl.enc, Fl.fv]
  · have hlk : ∀ q, (Instr.lookup 114 (.map (some m)) (.agg #[.string car, .int .i64 num]) true).run Tryz.prog (w2.drewN q) = .ok (.tuple #[.int .i64 0, .bool false]) (w2.drewN q) := fun q => hrun _ hmm
    clear hrun HLK hmm
    have HNo := Lib.hid hno
    clear hno
    go_quiet (fail)
    obtain ⟨wy, ewy⟩ : ∃ x, x = w2.drewN nq := ⟨_, rfl⟩
    have hby : Below w2.heap.size w2 wy := by rw [ewy]; exact Fl.below_drewN (Below.refl _ _) _
    have HKy := Lib.hid (HK2.out.below' hby)
    have HY := Lib.hid (HX.out (.returned (.tuple #[Fl.fv Fl.r0, .bool false])) (.inr ⟨HNo.out, rfl⟩))
    rw [← ewy]
    clear ewy q0 q1 q2 hlk
    go_wp2_with (first
      | (refine Rw.wpList_store_whole rfl 70 _ _ rfl (w.heap.size + 1) rfl (Fl.enc Fl.r0) rfl _ _ HKy.out Fl.iF rfl (Fl.enc_one _) ?_; intro w5 K5 f5))
    have hc5 := K5.cell
    have hb5 : Below w.heap.size w w5 := (HB2.out.trans (hby.mono HB2.out.size)).trans (f5.below (B := w.heap.size) (Nat.le_trans HB2.out.size hby.size) (fun k hk => by have : k = w.heap.size + 1 := hk; omega))
    refine bodyPost_ret (v := .tuple #[Fl.fv Fl.r0, .bool false]) ?_ rfl (HY.out _ hb5)
    simp [results, Tryz.results77, go_sem, hc5, Fl.enc, Fl.fv]
end Go.Proofs.YtfodabbmjggieaaGreat
namespace Go.Proofs.YtfodabbmjggieaaGreat
open Go.RowKit Go.WideMaps
set_option linter.unusedVariables false

namespace Fl
/-- The level of a class among classes, and the error. -/
def lvlOf (l : List (Int × Int)) (c : Int) : Int × Int := match l.find? (fun p => p.1 == c) with
  | some p => (p.2, 0)
  | none => (0, 12)
/-- The level of a class of a flight on a day, and the error. -/
def lvlF (f : F) (day c : Int) : Int × Int := if on f day then lvlOf f.cls c else (0, 9)
def level (fs : List F) (car : ByteArray) (num day c : Int) : Int × Int := match fs.find? (fun f => isK f car num) with
  | some f => lvlF f day c
  | none => (0, 9)
theorem find_at {fs : List F} {car : ByteArray} {num : Int} {j : Nat} (hj : j < fs.length) (h1 : isK fs[j] car num = true) (h2 : ∀ i, i < j → ∀ hi : i < fs.length, isK fs[i] car num = false) : fs.find? (fun f => isK f car num) = some fs[j] := by
  rw [List.find?_eq_some_iff_getElem]
  exact ⟨h1, j, hj, rfl, fun i hi => by simpa using h2 i hi (by omega)⟩
theorem find_non {fs : List F} {car : ByteArray} {num : Int} (h : ∀ f ∈ fs, isK f car num = false) : fs.find? (fun f => isK f car num) = none := by
  rw [List.find?_eq_none]
  intro f hf
  rw [h f hf]; decide
theorem level_at {rs : List R} {car : ByteArray} {num day c : Int} {j : Nat} (hn : (ks rs).Nodup) (hj : j < rs.length) (h1 : isK rs[j].f car num = true) : level (rs.map R.f) car num day c = lvlF rs[j].f day c := by
  unfold level
  rw [find_at (fs := rs.map R.f) (j := j) (by simpa using hj) (by simpa using h1) (fun i hi hi2 => ?_)]
  · simp
  · cases he : isK (rs.map R.f)[i] car num with
    | false => rfl
    | true =>
      have hi3 : i < rs.length := by omega
      have := tab_uniq hn hi3 hj (by simpa using he) h1
      omega
theorem level_first {rs : List R} {car : ByteArray} {num day c : Int} {j : Nat} (hj : j < rs.length) (h1 : isK rs[j].f car num = true) (h2 : ∀ i, i < j → ∀ hi : i < rs.length, isK rs[i].f car num = false) : level (rs.map R.f) car num day c = lvlF rs[j].f day c := by
  unfold level
  rw [find_at (fs := rs.map R.f) (j := j) (by simpa using hj) (by simpa using h1) (fun i hi hi2 => by simpa using h2 i hi (by simpa using hi2))]
  simp
theorem level_non {rs : List R} {car : ByteArray} {num day c : Int} (h : ∀ r ∈ rs, isK r.f car num = false) : level (rs.map R.f) car num day c = (0, 9) := by
  unfold level
  rw [find_non (fun f hf => by obtain ⟨r, hr, rfl⟩ := List.mem_map.1 hf; exact h r hr)]
theorem lvlF_no {f : F} {day c : Int} (h : on f day = false) : lvlF f day c = (0, 9) := by unfold lvlF; rw [h]; rfl
theorem lvlF_yes {f : F} {day c : Int} (h : on f day = true) : lvlF f day c = lvlOf f.cls c := by unfold lvlF; rw [h]; rfl
theorem lvlOf_at {l : List (Int × Int)} {c : Int} {k : Nat} (hk : k < l.length) (h1 : lt l k = c) (h2 : ∀ i, i < k → lt l i ≠ c) : lvlOf l c = (lv l k, 0) := by
  have hlt : ∀ i (hi : i < l.length), lt l i = l[i].1 := fun i hi => by simp [lt, List.getD_eq_getElem?_getD, List.getElem?_eq_getElem hi]
  have hlv : lv l k = l[k].2 := by simp [lv, List.getD_eq_getElem?_getD, List.getElem?_eq_getElem hk]
  unfold lvlOf
  rw [show l.find? (fun p => p.1 == c) = some l[k] from ?_]
  · simp [hlv]
  · rw [List.find?_eq_some_iff_getElem]
    exact ⟨by rw [beq_iff_eq, ← hlt]; exact h1, k, hk, rfl, fun i hi => by
      have := h2 i hi
      rw [hlt i (by omega)] at this
      simpa using this⟩
theorem lvlOf_non {l : List (Int × Int)} {c : Int} (h2 : ∀ i, i < l.length → lt l i ≠ c) : lvlOf l c = (0, 12) := by
  have hlt : ∀ i (hi : i < l.length), lt l i = l[i].1 := fun i hi => by simp [lt, List.getD_eq_getElem?_getD, List.getElem?_eq_getElem hi]
  unfold lvlOf
  rw [show l.find? (fun p => p.1 == c) = none from ?_]
  · rw [List.find?_eq_none]
    intro p hp
    obtain ⟨i, hi, rfl⟩ := List.getElem_of_mem hp
    have := h2 i hi
    rw [hlt i hi] at this
    simpa using this
theorem mem_perm_find {α : Type} {l l' : List α} {p : α → Bool} (hp : l'.Perm l) (hu : ∀ x ∈ l, ∀ y ∈ l, p x = true → p y = true → x = y) : l'.find? p = l.find? p := by
  cases h : l.find? p with
  | none =>
    rw [List.find?_eq_none] at h ⊢
    exact fun x hx => h x (hp.mem_iff.1 hx)
  | some x =>
    have hx := List.mem_of_find?_eq_some h
    have hpx := List.find?_some h
    cases h' : l'.find? p with
    | none => rw [List.find?_eq_none] at h'; exact absurd hpx (h' x (hp.mem_iff.2 hx))
    | some y =>
      have hy := hp.mem_iff.1 (List.mem_of_find?_eq_some h')
      rw [hu x hx y hy hpx (List.find?_some h')]
/-- The order of the flights is all one to Level. -/
theorem level_perm {rs rs' : List R} (hp : (rs'.map R.f).Perm (rs.map R.f)) (hn : (ks rs).Nodup) (car : ByteArray) (num day c : Int) : level (rs'.map R.f) car num day c = level (rs.map R.f) car num day c := by
  unfold level
  rw [mem_perm_find hp (fun x hx y hy h1 h2 => ?_)]
  obtain ⟨i, hi, rfl⟩ := List.getElem_of_mem hx
  obtain ⟨j, hj, rfl⟩ := List.getElem_of_mem hy
  have hi2 : i < rs.length := by simpa using hi
  have hj2 : j < rs.length := by simpa using hj
  have := tab_uniq hn hi2 hj2 (by simpa using h1) (by simpa using h2)
  subst this
  rfl
end Fl
theorem find_yes (base p : Nat) (rs : List Fl.R) (car : ByteArray) (num : Int) (w : World) (h : Fl.Tab w base p rs) (hs : car.size ≤ 9223372036854775807) (h0 : -9223372036854775808 ≤ num) (h1 : num ≤ 9223372036854775807) (hl : rs.length ≤ 1000000) (j : Nat) (hj : j < rs.length) (hi : Fl.isK rs[j].f car num = true) :
    Calls Tryz.prog 77 #[.pointer (some ⟨p, 0, none⟩), .agg #[.string car, .int .i64 num]] w fun e w' => e = .returned (.tuple #[Fl.fv rs[j], .bool true]) ∧ Below w.heap.size w w' := by
  refine (find_any base p rs car num w h hs h0 h1 hl).mono fun e w' ⟨hh, hb⟩ => ⟨?_, hb⟩
  rcases hh with ⟨j2, hj2, hi2, he⟩ | ⟨hno, he⟩
  · have := Fl.tab_uniq h.nod hj hj2 hi hi2
    subst this
    exact he
  · rw [hno _ (List.getElem_mem hj)] at hi; cases hi
theorem find_no (base p : Nat) (rs : List Fl.R) (car : ByteArray) (num : Int) (w : World) (h : Fl.Tab w base p rs) (hs : car.size ≤ 9223372036854775807) (h0 : -9223372036854775808 ≤ num) (h1 : num ≤ 9223372036854775807) (hl : rs.length ≤ 1000000) (hno : ∀ r ∈ rs, Fl.isK r.f car num = false) :
    Calls Tryz.prog 77 #[.pointer (some ⟨p, 0, none⟩), .agg #[.string car, .int .i64 num]] w fun e w' => e = .returned (.tuple #[Fl.fv Fl.r0, .bool false]) ∧ Below w.heap.size w w' := by
  refine (find_any base p rs car num w h hs h0 h1 hl).mono fun e w' ⟨hh, hb⟩ => ⟨?_, hb⟩
  rcases hh with ⟨j2, hj2, hi2, he⟩ | ⟨_, he⟩
  · rw [hno _ (List.getElem_mem hj2)] at hi2; cases hi2
  · exact he
namespace Fl
theorem Tab.kept {w w' : World} {base p : Nat} {rs : List R} (h : Tab w base p rs) (hb : Below w.heap.size w w') : Tab w' base p rs := by
  obtain ⟨⟨A, cap, m, HB, HO, HM, hm0⟩, hlo, hnod, hri⟩ := h
  exact ⟨⟨A, cap, m, HB.below' hb, HO.below hb, HM.kept (hb.block m HM.lt), hm0⟩, hlo, hnod, hri⟩
theorem Tab.cls {w : World} {base p : Nat} {rs : List R} (h : Tab w base p rs) : ∀ r ∈ rs, Cls w w.heap.size r.A r.f.cls := by
  obtain ⟨⟨A, cap, m, HB, HO, HM, hm0⟩, _⟩ := h
  exact fun r hr => (HO.cls r hr).cls
theorem Tab.wf {w : World} {base p : Nat} {rs : List R} (h : Tab w base p rs) : ∀ r ∈ rs, Wf r := by
  obtain ⟨⟨A, cap, m, HB, HO, HM, hm0⟩, _⟩ := h
  exact HO.wf
/-- The nine cells of a flight. -/
theorem encs {w : World} {g : Nat} {r : R} (h : Rw.Blk w g 70 (enc r)) : w.cell? ⟨g, 0, none⟩ = some (.string r.f.car) ∧ w.cell? ⟨g, 1, none⟩ = some (.int .i64 r.f.num) ∧ w.cell? ⟨g, 2, none⟩ = some (.string r.f.frm) ∧ w.cell? ⟨g, 3, none⟩ = some (.string r.f.to) ∧ w.cell? ⟨g, 4, none⟩ = some (.int .u8 r.f.days) ∧ w.cell? ⟨g, 5, none⟩ = some (.int .i64 r.f.dep) ∧ w.cell? ⟨g, 6, none⟩ = some (.int .i64 r.f.arr) ∧ w.cell? ⟨g, 7, none⟩ = some (.slice r.A r.f.cls.length r.cap) ∧ w.cell? ⟨g, 8, none⟩ = some (.int .i64 r.f.plan) :=
  ⟨h.cell 0, h.cell 1, h.cell 2, h.cell 3, h.cell 4, h.cell 5, h.cell 6, h.cell 7, h.cell 8⟩
end Fl
end Go.Proofs.YtfodabbmjggieaaGreat
namespace Go.Proofs.YtfodabbmjggieaaGreat
open Go.RowKit Go.WideMaps
set_option linter.unusedVariables false

theorem rfind_yes (A : Option Addr) (rs : List Fl.R) (cap B : Nat) (car : ByteArray) (num : Int) (w : World) (h : Fl.Fls w B A rs) (hB : B ≤ w.heap.size) (hl : rs.length ≤ 1000000) (j : Nat) (hj : j < rs.length) (hi : Fl.isK rs[j].f car num = true) (hf : ∀ i, i < j → ∀ hi : i < rs.length, Fl.isK rs[i].f car num = false) :
    Calls Tryz.prog 32 #[.slice A rs.length cap, .agg #[.string car, .int .i64 num]] w fun e w' => e = .returned (.tuple #[Fl.fv rs[j], .bool true]) ∧ Below w.heap.size w w' := by
  refine (rfind_any A rs cap B car num w h hB hl).mono fun e w' ⟨hh, hb⟩ => ⟨?_, hb⟩
  rcases hh with ⟨j2, hj2, hi2, hf2, he⟩ | ⟨hno, he⟩
  · have : j2 = j := by
      rcases Nat.lt_trichotomy j2 j with h | h | h
      · rw [hf j2 h hj2] at hi2; cases hi2
      · exact h
      · rw [hf2 j h hj] at hi; cases hi
    subst this
    exact he
  · rw [hno _ (List.getElem_mem hj)] at hi; cases hi
theorem rfind_no (A : Option Addr) (rs : List Fl.R) (cap B : Nat) (car : ByteArray) (num : Int) (w : World) (h : Fl.Fls w B A rs) (hB : B ≤ w.heap.size) (hl : rs.length ≤ 1000000) (hno : ∀ r ∈ rs, Fl.isK r.f car num = false) :
    Calls Tryz.prog 32 #[.slice A rs.length cap, .agg #[.string car, .int .i64 num]] w fun e w' => e = .returned (.tuple #[Fl.fv Fl.r0, .bool false]) ∧ Below w.heap.size w w' := by
  refine (rfind_any A rs cap B car num w h hB hl).mono fun e w' ⟨hh, hb⟩ => ⟨?_, hb⟩
  rcases hh with ⟨j2, hj2, hi2, hf2, he⟩ | ⟨_, he⟩
  · rw [hno _ (List.getElem_mem hj2)] at hi2; cases hi2
  · exact he
namespace Fl
/-- There is a first one, or none. -/
theorem first_or (rs : List R) (car : ByteArray) (num : Int) : (∃ (j : Nat) (hj : j < rs.length), isK rs[j].f car num = true ∧ ∀ i, i < j → ∀ hi : i < rs.length, isK rs[i].f car num = false) ∨ ∀ r ∈ rs, isK r.f car num = false := by
  cases h : rs.find? (fun r => isK r.f car num) with
  | none =>
    rw [List.find?_eq_none] at h
    exact .inr fun r hr => by simpa using h r hr
  | some r =>
    rw [List.find?_eq_some_iff_getElem] at h
    obtain ⟨h1, j, hj, rfl, h2⟩ := h
    exact .inl ⟨j, hj, h1, fun i hi hi2 => by simpa using h2 i hi⟩
/-- Does the flight of a key fly on a day? -/
def flies (fs : List F) (car : ByteArray) (num day : Int) : Bool := match fs.find? (fun f => isK f car num) with
  | some f => on f day
  | none => false
theorem flies_first {rs : List R} {car : ByteArray} {num day : Int} {j : Nat} (hj : j < rs.length) (h1 : isK rs[j].f car num = true) (h2 : ∀ i, i < j → ∀ hi : i < rs.length, isK rs[i].f car num = false) : flies (rs.map R.f) car num day = on rs[j].f day := by
  unfold flies
  rw [find_at (fs := rs.map R.f) (j := j) (by simpa using hj) (by simpa using h1) (fun i hi hi2 => by simpa using h2 i hi (by simpa using hi2))]
  simp
theorem flies_non {rs : List R} {car : ByteArray} {num day : Int} (h : ∀ r ∈ rs, isK r.f car num = false) : flies (rs.map R.f) car num day = false := by
  unfold flies
  rw [find_non (fun f hf => by obtain ⟨r, hr, rfl⟩ := List.mem_map.1 hf; exact h r hr)]
end Fl
set_option maxHeartbeats 1000000 in
set_option maxRecDepth 20000 in
theorem rflies_any (A : Option Addr) (rs : List Fl.R) (cap B : Nat) (car : ByteArray) (num day : Int) (w : World) (h : Fl.Fls w B A rs) (hB : B ≤ w.heap.size) (hl : rs.length ≤ 1000000) :
    Calls Tryz.prog 31 #[.slice A rs.length cap, .agg #[.string car, .int .i64 num, .int .i64 day]] w fun e w' => e = .returned (.bool (Fl.flies (rs.map Fl.R.f) car num day)) ∧ Below w.heap.size w w' := by
  obtain ⟨w1, ew1⟩ : ∃ x, x = w.alloc (.cells #[.string car, .int .i64 num, .int .i64 day] 35) := ⟨_, rfl⟩
  have hb1 : Below w.heap.size w w1 := by rw [ew1]; exact (Below.refl _ _).alloc (Nat.le_refl _) _
  have hz1 : w.heap.size < w1.heap.size := by rw [ew1]; simp
  have K1 : Rw.Blk w1 w.heap.size 35 [.string car, .int .i64 num, .int .i64 day] := by rw [ew1]; exact heap_alloc_new w _
  have HB1 := Lib.hid hb1
  have HK1 := Lib.hid K1
  rcases Fl.first_or rs car num with ⟨j, hj, hi, hf⟩ | hno
  · have HFd := Lib.hid (rfind_yes A rs cap B car num w1 (h.below hb1 hB) (Nat.le_trans hB hb1.size) hl j hj hi hf)
    have HL := Lib.hid (Fl.flies_first (day := day) hj hi hf)
    have HW := Lib.hid (h.wf _ (List.getElem_mem hj))
    generalize Fl.flies (rs.map Fl.R.f) car num day = res at *
    generalize rs[j] = r at *
    clear hi h hl hb1 K1 hj hf
    have HFl := Lib.hid (fun w => ron_any r day w HW.out)
    rw [ew1] at HFd HB1 HK1 hz1
    rw [← HL.out] at HFl
    go_enter Tryz.func31, Tryz.ntmps31
    go_wp2_with (first
        | (go_at_call 32; refine HFd.out.mono ?_; rintro e w2 ⟨rfl, hb2⟩; have hlt2 : w.heap.size < w2.heap.size := Nat.lt_of_lt_of_le hz1 hb2.size; have HB2 := Lib.hid (HB1.out.trans (hb2.mono HB1.out.size)); have k1 : w2.cell? ⟨w.heap.size, 2, none⟩ = some (.int .i64 day) := (hb2.cell (p := ⟨w.heap.size, 2, none⟩) hz1).trans (HK1.out.cell 2))
        | (refine Rw.wpList_alloc rfl 70 rfl (Fl.enc Fl.r0) Fl.zF ?_; intro w3 K3 hb3 hz3; clear hz3)
        | (refine Rw.wpList_store_whole rfl 70 _ _ rfl w2.heap.size rfl (Fl.enc r) rfl _ _ K3 Fl.iF rfl (Fl.enc_one _) ?_; intro w4 K4 f4; obtain ⟨c0, c1, c2, c3, c4, c5, c6, c7, c8⟩ := Fl.encs K4; have hb24 : Below w2.heap.size w2 w4 := hb3.trans (f4.below hb3.size (fun k hk => by have : k = w2.heap.size := hk; omega)); have k2 : w4.cell? ⟨w.heap.size, 2, none⟩ = some (.int .i64 day) := (hb24.cell (p := ⟨w.heap.size, 2, none⟩) hlt2).trans k1; have HB4 := Lib.hid (HB2.out.trans (hb24.mono HB2.out.size)))
        | (go_at_call 51; refine (HFl.out _).mono ?_; rintro e w5 ⟨rfl, hb5⟩))
    go_ret
    exact ⟨rfl, HB4.out.trans (hb5.mono HB4.out.size)⟩
  · have HFd := Lib.hid (rfind_no A rs cap B car num w1 (h.below hb1 hB) (Nat.le_trans hB hb1.size) hl hno)
    have HL := Lib.hid (Fl.flies_non (day := day) hno)
    generalize Fl.flies (rs.map Fl.R.f) car num day = res at *
    clear h hl hb1 K1 hno
    rw [ew1] at HFd HB1 HK1 hz1
    generalize Fl.r0 = r at HFd
    go_enter Tryz.func31, Tryz.ntmps31
    go_wp2_with (first
        | (go_at_call 32; refine HFd.out.mono ?_; rintro e w2 ⟨rfl, hb2⟩; have HB2 := Lib.hid (HB1.out.trans (hb2.mono HB1.out.size)))
        | (refine Rw.wpList_alloc rfl 70 rfl (Fl.enc Fl.r0) Fl.zF ?_; intro w3 K3 hb3 hz3; clear hz3)
        | (refine Rw.wpList_store_whole rfl 70 _ _ rfl w2.heap.size rfl (Fl.enc r) rfl _ _ K3 Fl.iF rfl (Fl.enc_one _) ?_; intro w4 K4 f4; obtain ⟨c0, c1, c2, c3, c4, c5, c6, c7, c8⟩ := Fl.encs K4; have hb24 : Below w2.heap.size w2 w4 := hb3.trans (f4.below hb3.size (fun k hk => by have : k = w2.heap.size := hk; omega)); have HB4 := Lib.hid (HB2.out.trans (hb24.mono HB2.out.size)))
)
    go_ret
    exact ⟨Cd.ret_bool HL.out.symm, HB4.out⟩
end Go.Proofs.YtfodabbmjggieaaGreat
namespace Go.Proofs.YtfodabbmjggieaaGreat
open Go.RowKit
set_option linter.unusedVariables false

namespace Fl
theorem right_eq (f : F) : right f = (Cd.carrier f.car && inI f.num 1 9999 && Cd.city f.frm && Cd.city f.to && !decide (f.frm = f.to) && inI f.days 1 127 && inI f.dep 0 1439 && inI f.arr 0 1439 && inI (f.cls.length : Int) 1 6 && inI f.plan 0 7 && (List.range f.cls.length).all (cOk f.cls)) := by
  have e1 : ∀ x : Int, Dt.isMin x = inI x 0 1439 := fun x => by
    unfold Dt.isMin inI
    rw [Bool.eq_iff_iff]; simp; omega
  have e2 : (decide (1 ≤ f.cls.length) && decide (f.cls.length ≤ 6)) = inI (f.cls.length : Int) 1 6 := by
    unfold inI
    rw [Bool.eq_iff_iff]; simp; omega
  have e3 : (decide (0 ≤ f.plan) && decide (f.plan < 8)) = inI f.plan 0 7 := by
    unfold inI
    rw [Bool.eq_iff_iff]; simp; omega
  unfold right keyOk routeOk timesOk clsOk planOk
  rw [e1, e1, e2, e3]
  rw [Bool.eq_iff_iff]
  simp only [inI, Bool.and_eq_true, decide_eq_true_eq, Bool.not_eq_true', decide_eq_false_iff_not, ne_eq]
  constructor
  · rintro ⟨⟨⟨⟨⟨⟨a, b⟩, c⟩, ⟨d, e⟩, f⟩, ⟨⟨g, h⟩, i⟩, j⟩, k, l⟩, m⟩
    exact ⟨⟨⟨⟨⟨⟨⟨⟨⟨⟨a, b, c⟩, d⟩, e⟩, f⟩, g, h⟩, i⟩, j⟩, k⟩, m⟩, l⟩
  · rintro ⟨⟨⟨⟨⟨⟨⟨⟨⟨⟨a, b, c⟩, d⟩, e⟩, f⟩, g, h⟩, i⟩, j⟩, k⟩, m⟩, l⟩
    exact ⟨⟨⟨⟨⟨⟨a, b⟩, c⟩, ⟨d, e⟩, f⟩, ⟨⟨g, h⟩, i⟩, j⟩, k, l⟩, m⟩
theorem in_of {n : Nat} {a b : Int} (h : inI (n : Int) a b = true) : a ≤ n ∧ (n : Int) ≤ b := by simpa [inI] using h
theorem all_range_no {n k : Nat} {p : Nat → Bool} (h : k < n) (hp : p k = false) : (List.range n).all p = false := by
  rw [List.all_eq_false]
  exact ⟨k, by simpa using h, by simp [hp]⟩
end Fl
set_option maxHeartbeats 2000000 in
set_option maxRecDepth 20000 in
theorem rright_any (r : Fl.R) (B : Nat) (w : World) (hw : Fl.Wf r) (h : Fl.Cls w B r.A r.f.cls) (hB : B ≤ w.heap.size) :
    Calls Tryz.prog 41 #[Fl.fv r] w fun e w' => e = .returned (.bool (Fl.right r.f)) ∧ Below w.heap.size w w' := by
  have hs1 := hw.car
  have hs2 := hw.frm
  have hs3 := hw.to
  have hd0 := hw.d0
  have hd1 := hw.d1
  have hl := hw.l
  have HQ := Lib.hid (Fl.right_eq r.f)
  have HC := Lib.hid h
  clear hw h
  obtain ⟨w1, ew1⟩ : ∃ x, x = w.alloc (.cells (Fl.enc r).toArray 70) := ⟨_, rfl⟩
  have hb1 : Below w.heap.size w w1 := by rw [ew1]; exact (Below.refl _ _).alloc (Nat.le_refl _) _
  have hz1 : w.heap.size < w1.heap.size := by rw [ew1]; simp
  have K1 : Rw.Blk w1 w.heap.size 70 (Fl.enc r) := by rw [ew1]; exact heap_alloc_new w _
  obtain ⟨⟨car, num, frm, to, days, dep, arr, cls, plan⟩, A, cap⟩ := r
  unfold Fl.fv
  unfold Fl.enc at ew1 K1
  simp only at HQ HC hs1 hs2 hs3 hd0 hd1 hl ew1 K1 ⊢
  have hbe := hb1
  rw [ew1] at hbe
  generalize Fl.right _ = q at *
  cases hc1 : Cd.carrier car with
  | false =>
    have HF : Hid (q = false) := show _ = _ by rw [HQ.out]; simp [*]
    clear HQ
    
    go_enter Tryz.func41, Tryz.ntmps41
    go_wp2_with (first
      | (go_at_call 63; refine (rcarrier_any _ _ hs1).mono ?_; rintro e w' ⟨rfl, rfl⟩)
      | (go_at_call 65; refine (rcity_any _ _ (by first | exact hs2 | exact hs3)).mono ?_; rintro e w' ⟨rfl, rfl⟩)
      | (go_at_call 64; refine (in_any _ _ _ _).mono ?_; rintro e w' ⟨rfl, rfl⟩))
    
    go_ret
    exact ⟨Cd.ret_bool HF.out.symm, hbe⟩
  | true =>
    cases hc2 : Fl.inI num 1 9999 with
    | false =>
      have HF : Hid (q = false) := show _ = _ by rw [HQ.out]; simp [*]
      clear HQ
      
      go_enter Tryz.func41, Tryz.ntmps41
      go_wp2_with (first
        | (go_at_call 63; refine (rcarrier_any _ _ hs1).mono ?_; rintro e w' ⟨rfl, rfl⟩)
        | (go_at_call 65; refine (rcity_any _ _ (by first | exact hs2 | exact hs3)).mono ?_; rintro e w' ⟨rfl, rfl⟩)
        | (go_at_call 64; refine (in_any _ _ _ _).mono ?_; rintro e w' ⟨rfl, rfl⟩))
      
      go_ret
      exact ⟨Cd.ret_bool HF.out.symm, hbe⟩
    | true =>
      cases hc3 : Cd.city frm with
      | false =>
        have HF : Hid (q = false) := show _ = _ by rw [HQ.out]; simp [*]
        clear HQ
        
        go_enter Tryz.func41, Tryz.ntmps41
        go_wp2_with (first
          | (go_at_call 63; refine (rcarrier_any _ _ hs1).mono ?_; rintro e w' ⟨rfl, rfl⟩)
          | (go_at_call 65; refine (rcity_any _ _ (by first | exact hs2 | exact hs3)).mono ?_; rintro e w' ⟨rfl, rfl⟩)
          | (go_at_call 64; refine (in_any _ _ _ _).mono ?_; rintro e w' ⟨rfl, rfl⟩))
        
        go_ret
        exact ⟨Cd.ret_bool HF.out.symm, hbe⟩
      | true =>
        cases hc4 : Cd.city to with
        | false =>
          have HF : Hid (q = false) := show _ = _ by rw [HQ.out]; simp [*]
          clear HQ
          
          go_enter Tryz.func41, Tryz.ntmps41
          go_wp2_with (first
            | (go_at_call 63; refine (rcarrier_any _ _ hs1).mono ?_; rintro e w' ⟨rfl, rfl⟩)
            | (go_at_call 65; refine (rcity_any _ _ (by first | exact hs2 | exact hs3)).mono ?_; rintro e w' ⟨rfl, rfl⟩)
            | (go_at_call 64; refine (in_any _ _ _ _).mono ?_; rintro e w' ⟨rfl, rfl⟩))
          
          go_ret
          exact ⟨Cd.ret_bool HF.out.symm, hbe⟩
        | true =>
          by_cases he : frm = to
          · have s1 := Fl.str_eq he
            have HF : Hid (q = false) := show _ = _ by rw [HQ.out]; simp [he]
            clear HQ he
            go_enter Tryz.func41, Tryz.ntmps41
            go_wp2_with (first
              | (go_at_call 63; refine (rcarrier_any _ _ hs1).mono ?_; rintro e w' ⟨rfl, rfl⟩)
              | (go_at_call 65; refine (rcity_any _ _ (by first | exact hs2 | exact hs3)).mono ?_; rintro e w' ⟨rfl, rfl⟩)
              | (go_at_call 64; refine (in_any _ _ _ _).mono ?_; rintro e w' ⟨rfl, rfl⟩))
            
            go_ret
            exact ⟨Cd.ret_bool HF.out.symm, hbe⟩
          · have s1 := Fl.str_ne he
            have HE := Lib.hid he
            clear he
            cases hc6 : Fl.inI days 1 127 with
            | false =>
              have HF : Hid (q = false) := show _ = _ by rw [HQ.out]; simp [*]
              clear HQ
              
              go_enter Tryz.func41, Tryz.ntmps41
              go_wp2_with (first
                | (go_at_call 63; refine (rcarrier_any _ _ hs1).mono ?_; rintro e w' ⟨rfl, rfl⟩)
                | (go_at_call 65; refine (rcity_any _ _ (by first | exact hs2 | exact hs3)).mono ?_; rintro e w' ⟨rfl, rfl⟩)
                | (go_at_call 64; refine (in_any _ _ _ _).mono ?_; rintro e w' ⟨rfl, rfl⟩))
              
              go_ret
              exact ⟨Cd.ret_bool HF.out.symm, hbe⟩
            | true =>
              cases hc7 : Fl.inI dep 0 1439 with
              | false =>
                have HF : Hid (q = false) := show _ = _ by rw [HQ.out]; simp [*]
                clear HQ
                
                go_enter Tryz.func41, Tryz.ntmps41
                go_wp2_with (first
                  | (go_at_call 63; refine (rcarrier_any _ _ hs1).mono ?_; rintro e w' ⟨rfl, rfl⟩)
                  | (go_at_call 65; refine (rcity_any _ _ (by first | exact hs2 | exact hs3)).mono ?_; rintro e w' ⟨rfl, rfl⟩)
                  | (go_at_call 64; refine (in_any _ _ _ _).mono ?_; rintro e w' ⟨rfl, rfl⟩))
                
                go_ret
                exact ⟨Cd.ret_bool HF.out.symm, hbe⟩
              | true =>
                cases hc8 : Fl.inI arr 0 1439 with
                | false =>
                  have HF : Hid (q = false) := show _ = _ by rw [HQ.out]; simp [*]
                  clear HQ
                  
                  go_enter Tryz.func41, Tryz.ntmps41
                  go_wp2_with (first
                    | (go_at_call 63; refine (rcarrier_any _ _ hs1).mono ?_; rintro e w' ⟨rfl, rfl⟩)
                    | (go_at_call 65; refine (rcity_any _ _ (by first | exact hs2 | exact hs3)).mono ?_; rintro e w' ⟨rfl, rfl⟩)
                    | (go_at_call 64; refine (in_any _ _ _ _).mono ?_; rintro e w' ⟨rfl, rfl⟩))
                  
                  go_ret
                  exact ⟨Cd.ret_bool HF.out.symm, hbe⟩
                | true =>
                  cases hc9 : Fl.inI (cls.length : Int) 1 6 with
                  | false =>
                    have HF : Hid (q = false) := show _ = _ by rw [HQ.out]; simp [*]
                    clear HQ
                    
                    go_enter Tryz.func41, Tryz.ntmps41
                    go_wp2_with (first
                      | (go_at_call 63; refine (rcarrier_any _ _ hs1).mono ?_; rintro e w' ⟨rfl, rfl⟩)
                      | (go_at_call 65; refine (rcity_any _ _ (by first | exact hs2 | exact hs3)).mono ?_; rintro e w' ⟨rfl, rfl⟩)
                      | (go_at_call 64; refine (in_any _ _ _ _).mono ?_; rintro e w' ⟨rfl, rfl⟩))
                    
                    go_ret
                    exact ⟨Cd.ret_bool HF.out.symm, hbe⟩
                  | true =>
                    cases hc10 : Fl.inI plan 0 7 with
                    | false =>
                      have HF : Hid (q = false) := show _ = _ by rw [HQ.out]; simp [*]
                      clear HQ
                      
                      go_enter Tryz.func41, Tryz.ntmps41
                      go_wp2_with (first
                        | (go_at_call 63; refine (rcarrier_any _ _ hs1).mono ?_; rintro e w' ⟨rfl, rfl⟩)
                        | (go_at_call 65; refine (rcity_any _ _ (by first | exact hs2 | exact hs3)).mono ?_; rintro e w' ⟨rfl, rfl⟩)
                        | (go_at_call 64; refine (in_any _ _ _ _).mono ?_; rintro e w' ⟨rfl, rfl⟩))
                      
                      go_ret
                      exact ⟨Cd.ret_bool HF.out.symm, hbe⟩
                    | true =>
                      have HQ2 : Hid (q = (List.range cls.length).all (Fl.cOk cls)) := show _ = _ by rw [HQ.out]; simp [*, HE.out]
                      have hb := Fl.in_of hc9
                      clear HQ HE
                      go_enter Tryz.func41, Tryz.ntmps41
                      go_wp2_with (first
                        | (go_at_call 63; refine (rcarrier_any _ _ hs1).mono ?_; rintro e w' ⟨rfl, rfl⟩)
                        | (go_at_call 65; refine (rcity_any _ _ (by first | exact hs2 | exact hs3)).mono ?_; rintro e w' ⟨rfl, rfl⟩)
                        | (go_at_call 64; refine (in_any _ _ _ _).mono ?_; rintro e w' ⟨rfl, rfl⟩))
                      go_loopw [3] (fun i wr => ∃ k : Nat, k ≤ cls.length ∧ i = .int .i64 k ∧ Hid (∀ j, j < k → Fl.cOk cls j = true) ∧ Below w1.heap.size w1 wr) (fun i _ => cls.length - (intOf i).toNat)
                      case atStart => exact ⟨0, by omega, rfl, (fun j hj => absurd hj (by omega)), by rw [ew1]; exact Below.refl _ _⟩
                      case round =>
                        obtain ⟨wx, ewx⟩ : ∃ x, x = wr := ⟨_, rfl⟩
                        subst ewx
                        obtain ⟨k, hk, rfl, HK, hbr⟩ := hrel
                        have HBx := Lib.hid (hb1.trans (hbr.mono hb1.size))
                        have c7 : ∀ q, (wx.drewN q).cell? ⟨w.heap.size, 7, none⟩ = some (.slice A cls.length cap) := fun q => ((hbr.cell (p := ⟨w.heap.size, 7, none⟩) hz1).trans (K1.cell 7)).trans rfl
                        have c70 : wx.cell? ⟨w.heap.size, 7, none⟩ = some (.slice A cls.length cap) := c7 0
                        by_cases hlt : k < cls.length
                        · obtain ⟨b, off, rfl, hbB, hcs⟩ := HC.out.at (by omega)
                          obtain ⟨g0, g1⟩ := hcs k hlt
                          have hlow : ∀ j, (wx.drewN j).heap = wx.heap := fun _ => rfl
                          have c0 : ∀ q, (wx.drewN q).cell? ⟨b, off + k * 2, none⟩ = some (.int .u8 (Fl.lt cls k)) := fun q => (HBx.out.cell (p := ⟨b, off + k * 2, none⟩) (Nat.lt_of_lt_of_le hbB hB)).trans g0
                          have c1 : ∀ q, (wx.drewN q).cell? ⟨b, off + k * 2 + 1, none⟩ = some (.int .i64 (Fl.lv cls k)) := fun q => (HBx.out.cell (p := ⟨b, off + k * 2 + 1, none⟩) (Nat.lt_of_lt_of_le hbB hB)).trans g1
                          have HO : Hid (Fl.cOk cls k = (Cd.isL (Fl.lt cls k) && Fl.inI (Fl.lv cls k) 0 400 && (decide (k = 0) || decide (Fl.lt cls (k - 1) < Fl.lt cls k)))) := show _ = _ by simp [Fl.cOk, Fl.inI, Bool.and_assoc]
                          have HNo : Hid (Fl.cOk cls k = false → q = false) := fun e => by rw [HQ2.out]; exact Fl.all_range_no hlt e
                          have HYes : Hid (Fl.cOk cls k = true → ∀ j, j < k + 1 → Fl.cOk cls j = true) := fun e j hj => by
                            rcases Nat.lt_or_ge j k with h | h
                            · exact HK.out j h
                            · rw [show j = k by omega]; exact e
                          clear g0 g1 hlow
                          cases hL : Cd.isL (Fl.lt cls k) with
                          | false =>
                            have HF := Lib.hid (HNo.out (by rw [HO.out, hL]; rfl))
                            clear HO HNo HYes hcs
                            go_wp2
                            go_quiet ((first | (go_at_call 66; exact Calls.quiet_of_same ((rclass_any _ _).mono (fun _ _ h => ⟨h.1, h.2.symm⟩))) | (go_at_call 64; exact Calls.quiet_of_same ((in_any _ _ _ _).mono (fun _ _ h => ⟨h.1, h.2.symm⟩)))))
                            go_wp2
                            go_ret
                            exact ⟨Cd.ret_bool HF.out.symm, Fl.below_drewN HBx.out _⟩
                          | true =>
                            cases hI : Fl.inI (Fl.lv cls k) 0 400 with
                            | false =>
                              have HF := Lib.hid (HNo.out (by rw [HO.out, hL, hI]; rfl))
                              clear HO HNo HYes hcs
                              go_wp2
                              go_quiet ((first | (go_at_call 66; exact Calls.quiet_of_same ((rclass_any _ _).mono (fun _ _ h => ⟨h.1, h.2.symm⟩))) | (go_at_call 64; exact Calls.quiet_of_same ((in_any _ _ _ _).mono (fun _ _ h => ⟨h.1, h.2.symm⟩)))))
                              go_wp2
                              go_ret
                              exact ⟨Cd.ret_bool HF.out.symm, Fl.below_drewN HBx.out _⟩
                            | true =>
                              have HO2 := Lib.hid (show Fl.cOk cls k = (decide (k = 0) || decide (Fl.lt cls (k - 1) < Fl.lt cls k)) by rw [HO.out, hL, hI]; rfl)
                              clear HO
                              by_cases h0 : k = 0
                              · have HN := Lib.hid (HYes.out (by rw [HO2.out, decide_eq_true h0]; rfl))
                                have hd : decide (0 < (k : Int)) = false := by simp; omega
                                have hd2 : decide (0 < k) = false := by simp; omega
                                clear HO2 HNo HYes hcs h0
                                go_wp2
                                go_quiet ((first | (go_at_call 66; exact Calls.quiet_of_same ((rclass_any _ _).mono (fun _ _ h => ⟨h.1, h.2.symm⟩))) | (go_at_call 64; exact Calls.quiet_of_same ((in_any _ _ _ _).mono (fun _ _ h => ⟨h.1, h.2.symm⟩)))))
                                go_wp2
                                go_roundw
                                case rel => exact ⟨k + 1, by omega, by go_num, HN, Fl.below_drewN hbr _⟩
                                case measure => simp [intOf]; omega
                              · obtain ⟨m, hm⟩ : ∃ m, k - 1 = m := ⟨_, rfl⟩
                                rw [hm] at HO2
                                have hm2 : m < cls.length := by omega
                                obtain ⟨g0, _⟩ := hcs m hm2
                                have cm : ∀ q, (wx.drewN q).cell? ⟨b, off + m * 2, none⟩ = some (.int .u8 (Fl.lt cls m)) := fun q => (HBx.out.cell (p := ⟨b, off + m * 2, none⟩) (Nat.lt_of_lt_of_le hbB hB)).trans g0
                                have hd : decide (0 < (k : Int)) = true := by simp; omega
                                have hd2 : decide (0 < k) = true := by simp; omega
                                have hw : (k : Int) - 1 = (m : Int) := by omega
                                have hw2 : IntKind.i64.wrap (m : Int) = (m : Int) := IntWalk.i64_in _ (by omega)
                                have HO3 := Lib.hid (show Fl.cOk cls k = decide (Fl.lt cls m < Fl.lt cls k) by rw [HO2.out, decide_eq_false h0]; rfl)
                                clear HO2 hm h0 g0 hcs
                                by_cases h5 : Fl.lt cls m < Fl.lt cls k
                                · have HN := Lib.hid (HYes.out (by rw [HO3.out, decide_eq_true h5]))
                                  have hd3 : decide (Fl.lt cls k ≤ Fl.lt cls m) = false := by simp; omega
                                  clear HO3 HNo HYes
                                  go_wp2
                                  go_quiet ((first | (go_at_call 66; exact Calls.quiet_of_same ((rclass_any _ _).mono (fun _ _ h => ⟨h.1, h.2.symm⟩))) | (go_at_call 64; exact Calls.quiet_of_same ((in_any _ _ _ _).mono (fun _ _ h => ⟨h.1, h.2.symm⟩)))))
                                  go_wp2
                                  go_roundw
                                  case rel => exact ⟨k + 1, by omega, by go_num, HN, Fl.below_drewN hbr _⟩
                                  case measure => simp [intOf]; omega
                                · have HF := Lib.hid (HNo.out (by rw [HO3.out, decide_eq_false h5]))
                                  have hd3 : decide (Fl.lt cls k ≤ Fl.lt cls m) = true := by simp; omega
                                  clear HO3 HNo HYes
                                  go_wp2
                                  go_quiet ((first | (go_at_call 66; exact Calls.quiet_of_same ((rclass_any _ _).mono (fun _ _ h => ⟨h.1, h.2.symm⟩))) | (go_at_call 64; exact Calls.quiet_of_same ((in_any _ _ _ _).mono (fun _ _ h => ⟨h.1, h.2.symm⟩)))))
                                  go_wp2
                                  go_ret
                                  exact ⟨Cd.ret_bool HF.out.symm, Fl.below_drewN HBx.out _⟩
                        · have HF : Hid (q = true) := show _ = _ by rw [HQ2.out, List.all_eq_true]; intro j hj; exact HK.out j (by rw [List.mem_range] at hj; omega)
                          go_wp2
                          go_ret
                          exact ⟨Cd.ret_bool HF.out.symm, HBx.out⟩
end Go.Proofs.YtfodabbmjggieaaGreat
namespace Go.Proofs.YtfodabbmjggieaaGreat
open Go.RowKit
set_option linter.unusedVariables false

namespace Fl

open Classical in
noncomputable def newCode (rs : List R) : Int := if rs.all (fun r => right r.f) = true then (if (ks rs).Nodup then 0 else 8) else 4
theorem newCode_wrong {rs : List R} {k : Nat} (hk : k < rs.length) (h : right rs[k].f = false) : newCode rs = 4 := by
  unfold newCode
  rw [if_neg]
  intro hc
  rw [List.all_eq_true] at hc
  rw [hc _ (List.getElem_mem hk)] at h
  cases h
theorem kv_neq {f g : F} : kv f ≠ kv g ↔ f.car ≠ g.car ∨ (f.car = g.car ∧ f.num ≠ g.num) := by
  constructor
  · intro h
    by_cases h1 : f.car = g.car
    · exact .inr ⟨h1, fun h2 => h (by simp [kv, h1, h2])⟩
    · exact .inl h1
  · rintro (h | ⟨_, h⟩) e
    · exact h (kv_inj e).1
    · exact h (kv_inj e).2
theorem ks_get (rs : List R) (i : Nat) (hi : i < (ks rs).length) : (ks rs)[i] = kv (rs[i]'(by simpa [ks] using hi)).f := by simp [ks]
theorem newCode_twice {rs : List R} (hr : ∀ r ∈ rs, right r.f = true) {i j : Nat} (hi : i < rs.length) (hj : j < rs.length) (hij : j < i) (h : kv rs[j].f = kv rs[i].f) : newCode rs = 8 := by
  unfold newCode
  rw [if_pos (by rw [List.all_eq_true]; exact hr), if_neg]
  intro hc
  have hl : ∀ {k} (hk : k < rs.length), k < (ks rs).length := fun hk => by simpa [ks] using hk
  exact List.pairwise_iff_getElem.1 hc j i (hl hj) (hl hi) hij (by rw [ks_get, ks_get]; exact h)
theorem newCode_ok {rs : List R} (hr : ∀ r ∈ rs, right r.f = true) (h : ∀ i j (hi : i < rs.length) (hj : j < i), kv (rs[j]'(by omega)).f ≠ kv rs[i].f) : newCode rs = 0 := by
  unfold newCode
  rw [if_pos (by rw [List.all_eq_true]; exact hr), if_pos]
  refine List.pairwise_iff_getElem.2 fun j i hj hi hij => ?_
  rw [ks_get, ks_get]
  exact h i j (by simpa [ks] using hi) hij
end Fl
theorem rnew_many (A : Option Addr) (n cap : Nat) (w : World) (hn : 64 < n) (hn2 : n ≤ 9223372036854775807) : Calls Tryz.prog 25 #[.slice A n cap] w fun e w' => e = .returned (.int .i64 2) ∧ w = w' := by
  go_enter Tryz.func25, Tryz.ntmps25
  go_wp2
  go_ret
  exact ⟨rfl, rfl⟩
set_option maxHeartbeats 2000000 in
set_option maxRecDepth 20000 in
theorem rnew_any (A : Option Addr) (rs : List Fl.R) (cap B : Nat) (w : World) (h : Fl.Fls w B A rs) (hB : B ≤ w.heap.size) (hn : rs.length ≤ 64) :
    Calls Tryz.prog 25 #[.slice A rs.length cap] w fun e w' => e = .returned (.int .i64 (Fl.newCode rs)) ∧ Below w.heap.size w w' := by
  have HF := Lib.hid h
  have HWr := Lib.hid (fun k (hk : k < rs.length) => Fl.newCode_wrong hk)
  have HTw := Lib.hid (fun (hr : ∀ r ∈ rs, Fl.right r.f = true) i j (hi : i < rs.length) (hj : j < rs.length) (hij : j < i) => Fl.newCode_twice hr hi hj hij)
  have HOk := Lib.hid (fun hr h => Fl.newCode_ok (rs := rs) hr h)
  clear h
  generalize Fl.newCode rs = res at *
  go_enter Tryz.func25, Tryz.ntmps25
  go_wp2
  go_loopw [3] (fun i wr => ∃ (k : Nat), k ≤ rs.length ∧ i = .int .i64 k ∧ Hid (∀ j, j < k → ∀ hj : j < rs.length, Fl.right rs[j].f = true) ∧ Below w.heap.size w wr) (fun i _ => rs.length - (intOf i).toNat)
  case atStart => exact ⟨0, by omega, rfl, (fun j hj => absurd hj (by omega)), Below.refl _ _⟩
  case round =>
    obtain ⟨wx, ewx⟩ : ∃ x, x = wr := ⟨_, rfl⟩
    subst ewx
    obtain ⟨k, hk, rfl, HR, hbr⟩ := hrel
    by_cases hlt : k < rs.length
    · obtain ⟨b, off, hA, hbB, hrow⟩ := HF.out.row (by omega)
      have HRw : Hid (wx.rangeAt b (off + k * 9) (Fl.enc rs[k])) := fun j v hv => (hbr.cell (p := ⟨b, _, none⟩) (show b < w.heap.size by omega)).trans (hrow k hlt j v hv)
      have HRt := Lib.hid (rright_any rs[k] B wx (HF.out.wf _ (List.getElem_mem hlt)) ((HF.out.cls _ (List.getElem_mem hlt)).below hbr hB) (Nat.le_trans hB hbr.size))
      have HY : Hid (Fl.right rs[k].f = true → ∀ j, j < k + 1 → ∀ hj : j < rs.length, Fl.right rs[j].f = true) := fun e j hj hj2 => by
        rcases Nat.lt_or_ge j k with h | h
        · exact HR.out j h hj2
        · have : j = k := by omega
          subst this; exact e
      have HN := Lib.hid (HWr.out k hlt)
      subst hA
      generalize rs[k] = r at *
      clear hrow
      cases hc : Fl.right r.f with
      | true =>
        have HY2 := Lib.hid (HY.out hc)
        rw [hc] at HRt
        clear hc HY HN
        go_wp2_with (first
          | (refine wpList_load_mid rfl 70 _ rfl b (off + k * 9) rfl (Fl.enc r) _ HRw.out Fl.uF Fl.rF Fl.iF ?_)
          | (go_at_call 41; refine HRt.out.mono ?_; rintro e w2 ⟨rfl, hb2⟩))
        go_roundw
        case rel => exact ⟨k + 1, by omega, by go_num, HY2, hbr.trans (hb2.mono hbr.size)⟩
        case measure => simp [intOf]; omega
      | false =>
        have HN2 := Lib.hid (HN.out hc)
        rw [hc] at HRt
        clear hc HY HN
        go_wp2_with (first
          | (refine wpList_load_mid rfl 70 _ rfl b (off + k * 9) rfl (Fl.enc r) _ HRw.out Fl.uF Fl.rF Fl.iF ?_)
          | (go_at_call 41; refine HRt.out.mono ?_; rintro e w2 ⟨rfl, hb2⟩))
        go_ret
        exact ⟨by (have e := HN2.out; subst e; rfl), hbr.trans (hb2.mono hbr.size)⟩
    · have HAll : Hid (∀ r ∈ rs, Fl.right r.f = true) := fun r hr => by
        obtain ⟨j, hj, rfl⟩ := List.getElem_of_mem hr
        exact HR.out j (by omega) hj
      have HTw2 := Lib.hid (HTw.out HAll.out)
      have HOk2 := Lib.hid (HOk.out HAll.out)
      clear HR HWr HTw HOk
      go_wp2
      go_loopw [4] (fun i wr => ∃ (k : Nat), k ≤ rs.length ∧ i = .int .i64 k ∧ Hid (∀ i, i < k → ∀ (hi : i < rs.length) j (hj : j < i), Fl.kv (rs[j]'(by omega)).f ≠ Fl.kv rs[i].f) ∧ Below w.heap.size w wr) (fun i _ => rs.length - (intOf i).toNat)
      case atStart => exact ⟨0, by omega, rfl, (fun j hj => absurd hj (by omega)), hbr⟩
      case round =>
        obtain ⟨wy, ewy⟩ : ∃ x, x = wr := ⟨_, rfl⟩
        subst ewy
        obtain ⟨k2, hk2, rfl, HU, hbr2⟩ := hrel
        by_cases hlt2 : k2 < rs.length
        · go_wp2
          go_loopw [5] (fun i wr => ∃ (m : Nat), m ≤ k2 ∧ i = .int .i64 m ∧ Hid (∀ j, j < m → ∀ hj : j < rs.length, Fl.kv rs[j].f ≠ Fl.kv rs[k2].f) ∧ Below w.heap.size w wr) (fun i _ => k2 - (intOf i).toNat)
          case atStart => exact ⟨0, by omega, rfl, (fun j hj => absurd hj (by omega)), hbr2⟩
          case round =>
            obtain ⟨wz, ewz⟩ : ∃ x, x = wr := ⟨_, rfl⟩
            subst ewz
            obtain ⟨m, hm, rfl, HV, hbr3⟩ := hrel
            by_cases hlt3 : m < k2
            · have hm3 : m < rs.length := by omega
              obtain ⟨b, off, hA, hbB, hrow⟩ := HF.out.row (by omega)
              have HR1 : Hid (wz.rangeAt b (off + m * 9) (Fl.enc rs[m])) := fun j v hv => (hbr3.cell (p := ⟨b, _, none⟩) (show b < w.heap.size by omega)).trans (hrow m hm3 j v hv)
              have HR2 : Hid (wz.rangeAt b (off + k2 * 9) (Fl.enc rs[k2])) := fun j v hv => (hbr3.cell (p := ⟨b, _, none⟩) (show b < w.heap.size by omega)).trans (hrow k2 hlt2 j v hv)
              have c0 : ∀ q, (wz.drewN q).cell? ⟨b, off + m * 9, none⟩ = some (.string rs[m].f.car) := fun q => (Fl.enc_cell HR1.out).1
              have c1 : ∀ q, (wz.drewN q).cell? ⟨b, off + m * 9 + 1, none⟩ = some (.int .i64 rs[m].f.num) := fun q => (Fl.enc_cell HR1.out).2
              have d0 : ∀ q, (wz.drewN q).cell? ⟨b, off + k2 * 9, none⟩ = some (.string rs[k2].f.car) := fun q => (Fl.enc_cell HR2.out).1
              have d1 : ∀ q, (wz.drewN q).cell? ⟨b, off + k2 * 9 + 1, none⟩ = some (.int .i64 rs[k2].f.num) := fun q => (Fl.enc_cell HR2.out).2
              have HTT := Lib.hid (HTw2.out k2 m hlt2 hm3 hlt3)
              have HVV : Hid (Fl.kv rs[m].f ≠ Fl.kv rs[k2].f → ∀ j, j < m + 1 → ∀ hj : j < rs.length, Fl.kv rs[j].f ≠ Fl.kv rs[k2].f) := fun e j hj hj2 => by
                rcases Nat.lt_or_ge j m with h | h
                · exact HV.out j h hj2
                · have : j = m := by omega
                  subst this; exact e
              have hbn : ∀ q, Below w.heap.size w (wz.drewN q) := fun q => Fl.below_drewN hbr3 q
              rw [hA]
              clear hrow
              generalize rs[m].f = f at *
              by_cases he : Fl.kv f = Fl.kv rs[k2].f
              · have HT3 := Lib.hid (HTT.out he)
                obtain ⟨e1, e2⟩ := Fl.kv_inj he
                have s1 := Fl.str_eq e1
                have s2 : (f.num == rs[k2].f.num) = true := by simp [e2]
                clear he e1 e2 HVV HTT HR1 HR2
                generalize rs[k2].f = g at *
                clear HV
                go_wp2
                go_quiet (fail)
                go_wp2
                go_ret
                exact ⟨by (have e := HT3.out; subst e; rfl), hbn _⟩
              · have HV3 := Lib.hid (HVV.out he)
                rcases Fl.kv_neq.1 he with e1 | ⟨e1, e2⟩
                · have s1 := Fl.str_ne e1
                  clear he e1 HVV HTT HR1 HR2
                  go_wp2
                  go_quiet (fail)
                  go_wp2
                  go_roundw
                  case rel => exact ⟨m + 1, by omega, by go_num, HV3, hbn _⟩
                  case measure => simp [intOf]; omega
                · have s1 := Fl.str_eq e1
                  have s2 : (f.num == rs[k2].f.num) = false := by simp [e2]
                  clear he e1 e2 HVV HTT HR1 HR2
                  go_wp2
                  go_quiet (fail)
                  go_wp2
                  go_roundw
                  case rel => exact ⟨m + 1, by omega, by go_num, HV3, hbn _⟩
                  case measure => simp [intOf]; omega
            · have HU2 : Hid (∀ i, i < k2 + 1 → ∀ (hi : i < rs.length) j (hj : j < i), Fl.kv (rs[j]'(by omega)).f ≠ Fl.kv rs[i].f) := fun i hi hi2 j hj => by
                rcases Nat.lt_or_ge i k2 with h | h
                · exact HU.out i h hi2 j hj
                · have : i = k2 := by omega
                  subst this
                  exact HV.out j (by omega) (by omega)
              go_wp2
              go_roundw
              case rel => exact ⟨k2 + 1, by omega, by go_num, HU2, hbr3⟩
              case measure => simp [intOf]; omega
        · have HO3 : Hid (res = 0) := HOk2.out (fun i j hi hj => HU.out i (by omega) hi j hj)
          go_wp2
          go_ret
          exact ⟨by (have e := HO3.out; subst e; rfl), hbr2⟩
end Go.Proofs.YtfodabbmjggieaaGreat
