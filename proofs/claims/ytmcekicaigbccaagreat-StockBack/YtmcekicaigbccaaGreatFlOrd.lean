/- The order of flights by their keys. -/
import Derived.Test.YtmcekicaigbccaaGreatFlChk
import Derived.Test.YtmcekicaigbccaaGreatShelf
import Derived.Laws.Cover1
import Derived.Sort.Walk0
namespace Go.Proofs.YtmcekicaigbccaaGreat
open Go.RowKit
set_option linter.unusedVariables false

namespace Fl
def sl (a b : ByteArray) : Bool := Op.bytesLess a.toList b.toList
def cmpS (a b : ByteArray) : Int := if sl a b then -1 else if a.toList == b.toList then 0 else 1
def cmpI (a b : Int) : Int := if a < b then -1 else if b < a then 1 else 0
def cmpK (f g : F) : Int := if cmpS f.car g.car = 0 then cmpI f.num g.num else cmpS f.car g.car
theorem sl_iff (a b : ByteArray) : sl a b = true ↔ a.data.toList < b.data.toList := by
  unfold sl; rw [ByteArray.toList_eq, ByteArray.toList_eq, bytesLess_eq]; simp
theorem sl_irrefl (a : ByteArray) : sl a a = false := by
  cases h : sl a a with
  | false => rfl
  | true => exact absurd ((sl_iff a a).1 h) (List.lt_irrefl _)
theorem sl_trans {a b c : ByteArray} (h : sl a b = true) (k : sl b c = true) : sl a c = true := (sl_iff a c).2 (List.lt_trans ((sl_iff a b).1 h) ((sl_iff b c).1 k))
theorem ba_ext {a b : ByteArray} (h : a.data.toList = b.data.toList) : a = b := by apply ByteArray.ext; exact Array.toList_inj.1 h
theorem sl_total {a b : ByteArray} (h : sl a b = false) (k : sl b a = false) : a = b := by
  apply ba_ext
  have h1 : ¬ a.data.toList < b.data.toList := fun e => by rw [(sl_iff a b).2 e] at h; cases h
  have h2 : ¬ b.data.toList < a.data.toList := fun e => by rw [(sl_iff b a).2 e] at k; cases k
  exact List.le_antisymm (List.not_lt.1 h2) (List.not_lt.1 h1)
theorem toList_beq (a b : ByteArray) : (a.toList == b.toList) = decide (a = b) := by
  by_cases h : a = b
  · rw [str_eq h, decide_eq_true h]
  · rw [str_ne h, decide_eq_false h]
/-- By their carriers, then by their numbers. -/
def klt (f g : F) : Bool := sl f.car g.car || (decide (f.car = g.car) && decide (f.num < g.num))
theorem klt_iff (f g : F) : klt f g = true ↔ sl f.car g.car = true ∨ (f.car = g.car ∧ f.num < g.num) := by simp [klt]
theorem cmpK_lt (f g : F) : decide (cmpK f g < 0) = klt f g := by
  unfold cmpK cmpS cmpI klt
  rw [toList_beq]
  cases h : sl f.car g.car with
  | true => simp
  | false =>
    by_cases h2 : f.car = g.car
    · simp [h2]
      by_cases h3 : f.num < g.num
      · simp [h3]
      · by_cases h4 : g.num < f.num <;> simp [h3, h4]
    · simp [h2]
theorem klt_irrefl (f : F) : klt f f = false := by simp [klt, sl_irrefl]
theorem klt_trans {f g h : F} (a : klt f g = true) (b : klt g h = true) : klt f h = true := by
  rw [klt_iff] at *
  rcases a with a | ⟨a, a'⟩
  · rcases b with b | ⟨b, b'⟩
    · exact .inl (sl_trans a b)
    · exact .inl (b ▸ a)
  · rcases b with b | ⟨b, b'⟩
    · exact .inl (a ▸ b)
    · exact .inr ⟨a.trans b, by omega⟩
/-- Neither ahead of the other: one key. -/
theorem klt_total {f g : F} (a : klt f g = false) (b : klt g f = false) : f.car = g.car ∧ f.num = g.num := by
  have h1 : ¬ (sl f.car g.car = true ∨ (f.car = g.car ∧ f.num < g.num)) := fun e => by rw [(klt_iff f g).2 e] at a; cases a
  have h2 : ¬ (sl g.car f.car = true ∨ (g.car = f.car ∧ g.num < f.num)) := fun e => by rw [(klt_iff g f).2 e] at b; cases b
  have e : f.car = g.car := sl_total (by cases h : sl f.car g.car with | false => rfl | true => exact absurd (.inl h) h1) (by cases h : sl g.car f.car with | false => rfl | true => exact absurd (.inl h) h2)
  refine ⟨e, ?_⟩
  have h3 : ¬ f.num < g.num := fun h => h1 (.inr ⟨e, h⟩)
  have h4 : ¬ g.num < f.num := fun h => h2 (.inr ⟨e.symm, h⟩)
  omega
theorem klt_ntrans {f g h : F} (a : klt f g = false) (b : klt g h = false) : klt f h = false := by
  cases hc : klt f h with
  | false => rfl
  | true =>
    cases hd : klt g f with
    | true => rw [klt_trans hd hc] at b; cases b
    | false =>
      obtain ⟨e1, e2⟩ := klt_total a hd
      rw [klt_iff, e1, e2] at hc
      rw [(klt_iff g h).2 hc] at b
      cases b
def cmpR (r s : R) : Int := cmpK r.f s.f
theorem ltOf_cmpR (r s : R) : Go.Proofs.ltOf cmpR r s = klt r.f s.f := cmpK_lt r.f s.f
theorem swo : Sort.SWO (Go.Proofs.ltOf cmpR) where
  irrefl x := by rw [ltOf_cmpR]; exact klt_irrefl _
  trans x y z h1 h2 := by rw [ltOf_cmpR] at *; exact klt_trans h1 h2
  ntrans x y z h1 h2 := by rw [ltOf_cmpR] at *; exact klt_ntrans h1 h2
end Fl

theorem isNaN_s (s : ByteArray) (w : World) : Calls Tryz.prog 104 #[.string s] w fun e w' => e = .returned (.bool false) ∧ w = w' := by
  have h := Fl.str_eq (a := s) rfl
  go_enter Tryz.func104, Tryz.ntmps104
  go_wp2
  go_ret
  exact ⟨rfl, rfl⟩
theorem isNaN_i (n : Int) (w : World) : Calls Tryz.prog 105 #[.int .i64 n] w fun e w' => e = .returned (.bool false) ∧ w = w' := by
  go_enter Tryz.func105, Tryz.ntmps105
  go_wp2
  go_ret
  exact ⟨rfl, rfl⟩
theorem compare_s (a b : ByteArray) (w : World) : Calls Tryz.prog 76 #[.string a, .string b] w fun e w' => e = .returned (.int .i64 (Fl.cmpS a b)) ∧ w = w' := by
  unfold Fl.cmpS Fl.sl
  cases h : Op.bytesLess a.toList b.toList with
  | true =>
    go_enter Tryz.func76, Tryz.ntmps76
    go_wp2_with (go_at_call 104; refine (isNaN_s _ _).mono ?_; rintro e w' ⟨rfl, rfl⟩)
    go_ret
    exact ⟨rfl, rfl⟩
  | false =>
    cases h2 : a.toList == b.toList with
    | true =>
      go_enter Tryz.func76, Tryz.ntmps76
      go_wp2_with (go_at_call 104; refine (isNaN_s _ _).mono ?_; rintro e w' ⟨rfl, rfl⟩)
      go_ret
      exact ⟨rfl, rfl⟩
    | false =>
      go_enter Tryz.func76, Tryz.ntmps76
      go_wp2_with (go_at_call 104; refine (isNaN_s _ _).mono ?_; rintro e w' ⟨rfl, rfl⟩)
      go_ret
      exact ⟨rfl, rfl⟩
theorem compare_i (a b : Int) (w : World) : Calls Tryz.prog 77 #[.int .i64 a, .int .i64 b] w fun e w' => e = .returned (.int .i64 (Fl.cmpI a b)) ∧ w = w' := by
  unfold Fl.cmpI
  rcases (show a < b ∨ (¬ a < b ∧ b < a) ∨ (¬ a < b ∧ ¬ b < a) by omega) with h | ⟨h, h2⟩ | ⟨h, h2⟩
  · rw [if_pos h]
    go_enter Tryz.func77, Tryz.ntmps77
    go_wp2_with (go_at_call 105; refine (isNaN_i _ _).mono ?_; rintro e w' ⟨rfl, rfl⟩)
    go_ret
    exact ⟨rfl, rfl⟩
  · rw [if_neg h, if_pos h2]
    go_enter Tryz.func77, Tryz.ntmps77
    go_wp2_with (go_at_call 105; refine (isNaN_i _ _).mono ?_; rintro e w' ⟨rfl, rfl⟩)
    go_ret
    exact ⟨rfl, rfl⟩
  · rw [if_neg h, if_neg h2]
    go_enter Tryz.func77, Tryz.ntmps77
    go_wp2_with (go_at_call 105; refine (isNaN_i _ _).mono ?_; rintro e w' ⟨rfl, rfl⟩)
    go_ret
    exact ⟨rfl, rfl⟩
end Go.Proofs.YtmcekicaigbccaaGreat
