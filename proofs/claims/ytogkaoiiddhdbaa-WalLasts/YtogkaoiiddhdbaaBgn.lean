/- Contract of begun, where nothing is to be done yet. -/
import Derived.Test.YtogkaoiiddhdbaaTxt
namespace Go.Proofs.Ytogkaoiiddhdbaa
open Go.RowKit

namespace Wl
theorem new_open (n : Nat) (h4 : 4 ≤ n) (h : n ≤ 4096) {w0 w : World} {X : Nat → Prop} {p : Nat} (hL : Dk.Live w0 X w p (Dk.S.new (n : Int))) :
    Calls Try.prog 38 #[.pointer (some ⟨p, 0, none⟩)] w fun e w' => OpenL w0 X w p (opened (Dk.S.new (n : Int))) e w' := by
  obtain ⟨n1, n2, n3, _, _, _, _⟩ := open_new n h4
  refine open_live hL ⟨by show (4 : Int) ≤ (n : Int); omega, by show (n : Int) ≤ 4096; omega, by show (0 : Int) ≤ 0; omega, by show (0 : Int) ≤ 9223372036854775807; omega, by show ([] : List (Int × List UInt8)).length ≤ 50000; simp⟩ rfl (by rw [n1]; omega) ?_
  rw [n1, n2]
  exact n3
/-- begun answered a disk and a log. -/
def Begins (w : World) (t : L) (e : Ending) (w' : World) : Prop := ∃ q p, e = .returned (.tuple #[.pointer (some ⟨p, 0, none⟩), .pointer (some ⟨q, 0, none⟩), .bool true]) ∧ Hid (LiveL w (fun _ => False) w' q p t)
end Wl
theorem begun_nil (w : World) (n : Nat) (h4 : 4 ≤ n) (h60 : n ≤ 60) :
    Calls Try.prog 33 #[.int .i64 (n : Int), .slice none 0 0] w fun e w' => Wl.Begins w (Wl.opened (Dk.S.new (n : Int))) e w' := by
  have h1 : ¬ (n : Int) < 4 := by omega
  have h2 : ¬ 60 < (n : Int) := by omega
  have HN := Lib.hid (fun w1 => new_live (n : Int) w1 (by omega) (by omega))
  have HO : Hid (∀ w0 X w1 p, Dk.Live w0 X w1 p (Dk.S.new (n : Int)) → Calls Try.prog 38 #[.pointer (some ⟨p, 0, none⟩)] w1 fun e w' => Wl.OpenL w0 X w1 p (Wl.opened (Dk.S.new (n : Int))) e w') := fun w0 X w1 p hL => Wl.new_open n h4 (by omega) hL
  generalize Wl.opened (Dk.S.new (n : Int)) = T at *
  go_enter Try.func33, Try.ntmps33
  go_wp2_with (first
    | (go_at_call 15; refine (HN.out _).mono ?_; rintro e w1 ⟨rfl, HL⟩)
    | (go_at_call 38; refine (HO.out _ _ _ _ HL.out).mono ?_; rintro e w2 ⟨q, rfl, HL2, HS2⟩))
  go_loop [10] (fun i => i = .int .i64 0) (fun _ => 0)
  case atStart => rfl
  case round =>
    subst hrel
    go_wp2
    go_ret3
    exact ⟨q, _, rfl, HL2⟩
theorem begun_no (w : World) (x : Int) (A : Option Addr) (m c : Nat) (h : x < 4 ∨ 60 < x) (_hm : m ≤ 9223372036854775807) :
    Calls Try.prog 33 #[.int .i64 x, .slice A m c] w fun e w' => e = .returned (.tuple #[.pointer none, .pointer none, .bool false]) ∧ Hid (Below w.heap.size w w') := by
  by_cases hb : x < 1 ∨ 4096 < x
  · have HN := Lib.hid (fun w1 => new_bad x w1 hb)
    have hbl : Hid (Below w.heap.size w w) := Below.refl _ _
    clear h hb
    go_enter Try.func33, Try.ntmps33
    go_wp2_with (go_at_call 15; refine (HN.out _).mono ?_; rintro e w1 ⟨rfl, rfl⟩)
    go_ret3
    exact ⟨rfl, hbl⟩
  · have HN := Lib.hid (fun w1 => new_live x w1 (by omega) (by omega))
    rcases h with h | h
    · clear hb
      go_enter Try.func33, Try.ntmps33
      go_wp2_with (go_at_call 15; refine (HN.out _).mono ?_; rintro e w1 ⟨rfl, HL⟩)
      go_ret3
      exact ⟨rfl, HL.out.bl⟩
    · have h4 : ¬ x < 4 := by omega
      clear hb
      go_enter Try.func33, Try.ntmps33
      go_wp2_with (go_at_call 15; refine (HN.out _).mono ?_; rintro e w1 ⟨rfl, HL⟩)
      go_ret3
      exact ⟨rfl, HL.out.bl⟩
end Go.Proofs.Ytogkaoiiddhdbaa
