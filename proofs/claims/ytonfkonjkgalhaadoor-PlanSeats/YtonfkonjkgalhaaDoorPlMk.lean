/- Contracts of slices.Contains of seats, and of marks. -/
import Derived.Test.YtonfkonjkgalhaaDoorPlIdx
namespace Go.Proofs.YtonfkonjkgalhaaDoor
open Go.RowKit
set_option linter.unusedVariables false

theorem containsSeats_any (A : Option Addr) (l : List Pl.S) (cap B : Nat) (x : Pl.S) (w : World) (h : Pl.Sts w B A l) (hB : B ≤ w.heap.size) (hl : l.length ≤ 9223372036854775807) :
    Calls Tryd.prog 48 #[.slice A l.length cap, Pl.sv x] w fun e w' => e = .returned (.bool (l.contains x)) ∧ Below w.heap.size w w' := by
  have bA := (Below.refl w.heap.size w).alloc (Nat.le_refl _) (.cells #[.int .i64 x.1, .int .u8 x.2] 23)
  have H1 := Lib.hid (indexSeats_any A l cap B x (w.alloc (.cells #[.int .i64 x.1, .int .u8 x.2] 23)) (h.below bA hB) (Nat.le_trans hB bA.size) hl)
  clear h
  generalize l.contains x = res at *
  obtain ⟨x1, x2⟩ := x
  unfold Pl.sv at *
  simp only at *
  go_enter Tryd.func48, Tryd.ntmps48
  go_wp2_with (go_at_call 54; refine H1.out.mono ?_; rintro e w' ⟨⟨i, rfl, hi⟩, hb⟩)
  go_ret
  exact ⟨Pl.ret_bool (by first | exact hi | rfl), bA.trans (hb.mono (by simp))⟩
namespace Pl
/-- A letter behind a text, where b. -/
def ap (b : Bool) (c : UInt8) (s : ByteArray) : ByteArray := if b then s ++ ⟨#[c]⟩ else s
def win (p : P) (i : Nat) : Bool := decide (i = 0) || decide (i + 1 = p.lt.size)
def ail (p : P) (i : Nat) : Bool := (decide (0 < i) && decide (Cd.bt p.lt (i - 1) = 46)) || (decide (i + 1 < p.lt.size) && decide (Cd.bt p.lt (i + 1) = 46))
def marks (p : P) (row : Int) (i : Nat) : ByteArray := ap (p.ex.contains row) 69 (ap (ail p i) 65 (ap (win p i) 87 ⟨#[]⟩))
theorem ret_str {a b : ByteArray} (h : a = b) : Ending.returned (.string a) = .returned (.string b) := by rw [h]
end Pl
set_option maxHeartbeats 2000000 in
set_option maxRecDepth 20000 in
theorem marks_any (r : Pl.R) (row : Int) (i B : Nat) (w : World) (hs : r.p.lt.size ≤ 9223372036854775807) (hi : i < r.p.lt.size) (he : Pl.Ints w B r.eA r.p.ex) (hB : B ≤ w.heap.size) (hel : r.p.ex.length ≤ 9223372036854775807) :
    Calls Tryd.prog 49 #[Pl.pv r, .int .i64 row, .int .i64 i] w fun e w' => e = .returned (.string (Pl.marks r.p row i)) ∧ Below w.heap.size w w' := by
  have hb := Cd.get_bt r.p.lt
  have bA := (Below.refl w.heap.size w).alloc (Nat.le_refl _) (.cells #[.int .i64 r.p.fr, .int .i64 r.p.la, .string r.p.lt, .slice r.eA r.p.ex.length r.ec, .slice r.bA r.p.bl.length r.bc] 32)
  have H1 := Lib.hid (containsInts_any r.eA r.p.ex r.ec B row (w.alloc (.cells #[.int .i64 r.p.fr, .int .i64 r.p.la, .string r.p.lt, .slice r.eA r.p.ex.length r.ec, .slice r.bA r.p.bl.length r.bc] 32)) (he.below bA hB) hel)
  have HE : Hid (Pl.marks r.p row i = Pl.ap (r.p.ex.contains row) 69 (Pl.ap (Pl.ail r.p i) 65 (Pl.ap (Pl.win r.p i) 87 ⟨#[]⟩))) := show _ = _ by rfl
  have HW : Hid (Pl.win r.p i = (decide (i = 0) || decide (i + 1 = r.p.lt.size))) := show _ = _ by rfl
  have HA : Hid (Pl.ail r.p i = ((decide (0 < i) && decide (Cd.bt r.p.lt (i - 1) = 46)) || (decide (i + 1 < r.p.lt.size) && decide (Cd.bt r.p.lt (i + 1) = 46)))) := show _ = _ by rfl
  clear he
  generalize Pl.marks r.p row i = res at *
  generalize Pl.win r.p i = qw at *
  generalize Pl.ail r.p i = qa at *
  generalize r.p.ex.contains row = qe at *
  obtain ⟨⟨fr, la, lt, ex, bl⟩, eA, ec, bA', bc⟩ := r
  unfold Pl.pv
  simp only at *
  have hw1 : IntKind.i64.wrap ((lt.size : Int) - 1) = (lt.size : Int) - 1 := IntWalk.i64_in _ (by omega)
  by_cases h0 : i = 0
  · subst h0
    by_cases hl : 1 = lt.size
    · have hd : decide ((0 : Int) < (lt.size : Int) - 1) = false := by simp; omega
      have HN : Hid (res = Pl.ap qe 69 (Pl.ap false 65 (Pl.ap true 87 ⟨#[]⟩))) := show _ = _ by
        have e1 := HW.out
        have e2 := HA.out
        rw [HE.out, show qa = false by rw [e2]; simp [*] <;> omega, show qw = true by rw [e1]; simp [*] <;> omega]
      clear HE HW HA
      try clear hl
      cases qe
      · go_enter Tryd.func49, Tryd.ntmps49
        go_wp2_with (go_at_call 55; refine H1.out.mono ?_; rintro e w' ⟨rfl, rfl⟩)
        all_goals first | (go_ret; exact ⟨Pl.ret_str (by rw [HN.out]; rfl), bA⟩) | (exfalso; simp at *; omega)
      · go_enter Tryd.func49, Tryd.ntmps49
        go_wp2_with (go_at_call 55; refine H1.out.mono ?_; rintro e w' ⟨rfl, rfl⟩)
        all_goals first | (go_ret; exact ⟨Pl.ret_str (by rw [HN.out]; rfl), bA⟩) | (exfalso; simp at *; omega)
    · have hd : decide ((0 : Int) < (lt.size : Int) - 1) = true := by simp; omega
      by_cases hr : Cd.bt lt 1 = 46
      · have hx : (Cd.bt lt 1 == 46) = true := by simp [hr]
        have HN : Hid (res = Pl.ap qe 69 (Pl.ap true 65 (Pl.ap true 87 ⟨#[]⟩))) := show _ = _ by
          have e1 := HW.out
          have e2 := HA.out
          rw [HE.out, show qa = true by rw [e2]; simp [*] <;> omega, show qw = true by rw [e1]; simp [*] <;> omega]
        clear HE HW HA
        try clear hl
        cases qe
        · go_enter Tryd.func49, Tryd.ntmps49
          go_wp2_with (go_at_call 55; refine H1.out.mono ?_; rintro e w' ⟨rfl, rfl⟩)
          all_goals first | (go_ret; exact ⟨Pl.ret_str (by rw [HN.out]; rfl), bA⟩) | (exfalso; simp at *; omega)
        · go_enter Tryd.func49, Tryd.ntmps49
          go_wp2_with (go_at_call 55; refine H1.out.mono ?_; rintro e w' ⟨rfl, rfl⟩)
          all_goals first | (go_ret; exact ⟨Pl.ret_str (by rw [HN.out]; rfl), bA⟩) | (exfalso; simp at *; omega)
      · have hx : (Cd.bt lt 1 == 46) = false := by simp [hr]
        have HN : Hid (res = Pl.ap qe 69 (Pl.ap false 65 (Pl.ap true 87 ⟨#[]⟩))) := show _ = _ by
          have e1 := HW.out
          have e2 := HA.out
          rw [HE.out, show qa = false by rw [e2]; simp [*] <;> omega, show qw = true by rw [e1]; simp [*] <;> omega]
        clear HE HW HA
        try clear hl
        cases qe
        · go_enter Tryd.func49, Tryd.ntmps49
          go_wp2_with (go_at_call 55; refine H1.out.mono ?_; rintro e w' ⟨rfl, rfl⟩)
          all_goals first | (go_ret; exact ⟨Pl.ret_str (by rw [HN.out]; rfl), bA⟩) | (exfalso; simp at *; omega)
        · go_enter Tryd.func49, Tryd.ntmps49
          go_wp2_with (go_at_call 55; refine H1.out.mono ?_; rintro e w' ⟨rfl, rfl⟩)
          all_goals first | (go_ret; exact ⟨Pl.ret_str (by rw [HN.out]; rfl), bA⟩) | (exfalso; simp at *; omega)
  · obtain ⟨m, hm⟩ : ∃ m, i = m + 1 := ⟨i - 1, by omega⟩
    subst hm
    have hx0 : (((m : Int) + 1) == 0) = false := beq_false_of_ne (by omega)
    have hd0 : decide ((0 : Int) < (m : Int) + 1) = true := decide_eq_true (by omega)
    have hq : (m : Int) + 1 - 1 = (m : Int) := by omega
    have hq2 : IntKind.i64.wrap (m : Int) = (m : Int) := IntWalk.i64_in _ (by omega)
    rw [Nat.add_sub_cancel] at HA
    by_cases hlf : Cd.bt lt m = 46
    · have hx : (Cd.bt lt m == 46) = true := by simp [hlf]
      by_cases hl : m + 1 + 1 = lt.size
      · have hy : ((m : Int) + 1 == (lt.size : Int) - 1) = true := by simp; omega
        have HN : Hid (res = Pl.ap qe 69 (Pl.ap true 65 (Pl.ap true 87 ⟨#[]⟩))) := show _ = _ by
          have e1 := HW.out
          have e2 := HA.out
          rw [HE.out, show qa = true by rw [e2]; simp [*] <;> omega, show qw = true by rw [e1]; simp [*] <;> omega]
        clear HE HW HA
        try clear hl
        cases qe
        · go_enter Tryd.func49, Tryd.ntmps49
          go_wp2_with (go_at_call 55; refine H1.out.mono ?_; rintro e w' ⟨rfl, rfl⟩)
          all_goals first | (go_ret; exact ⟨Pl.ret_str (by rw [HN.out]; rfl), bA⟩) | (exfalso; simp at *; omega)
        · go_enter Tryd.func49, Tryd.ntmps49
          go_wp2_with (go_at_call 55; refine H1.out.mono ?_; rintro e w' ⟨rfl, rfl⟩)
          all_goals first | (go_ret; exact ⟨Pl.ret_str (by rw [HN.out]; rfl), bA⟩) | (exfalso; simp at *; omega)
      · have hy : ((m : Int) + 1 == (lt.size : Int) - 1) = false := by simp; omega
        have HN : Hid (res = Pl.ap qe 69 (Pl.ap true 65 (Pl.ap false 87 ⟨#[]⟩))) := show _ = _ by
          have e1 := HW.out
          have e2 := HA.out
          rw [HE.out, show qa = true by rw [e2]; simp [*] <;> omega, show qw = false by rw [e1]; simp [*] <;> omega]
        clear HE HW HA
        try clear hl
        cases qe
        · go_enter Tryd.func49, Tryd.ntmps49
          go_wp2_with (go_at_call 55; refine H1.out.mono ?_; rintro e w' ⟨rfl, rfl⟩)
          all_goals first | (go_ret; exact ⟨Pl.ret_str (by rw [HN.out]; rfl), bA⟩) | (exfalso; simp at *; omega)
        · go_enter Tryd.func49, Tryd.ntmps49
          go_wp2_with (go_at_call 55; refine H1.out.mono ?_; rintro e w' ⟨rfl, rfl⟩)
          all_goals first | (go_ret; exact ⟨Pl.ret_str (by rw [HN.out]; rfl), bA⟩) | (exfalso; simp at *; omega)
    · have hx : (Cd.bt lt m == 46) = false := by simp [hlf]
      by_cases hl : m + 1 + 1 = lt.size
      · have hy : ((m : Int) + 1 == (lt.size : Int) - 1) = true := by simp; omega
        have hd : decide ((m : Int) + 1 < (lt.size : Int) - 1) = false := by simp; omega
        have HN : Hid (res = Pl.ap qe 69 (Pl.ap false 65 (Pl.ap true 87 ⟨#[]⟩))) := show _ = _ by
          have e1 := HW.out
          have e2 := HA.out
          rw [HE.out, show qa = false by rw [e2]; simp [*] <;> omega, show qw = true by rw [e1]; simp [*] <;> omega]
        clear HE HW HA
        try clear hl
        cases qe
        · go_enter Tryd.func49, Tryd.ntmps49
          go_wp2_with (go_at_call 55; refine H1.out.mono ?_; rintro e w' ⟨rfl, rfl⟩)
          all_goals first | (go_ret; exact ⟨Pl.ret_str (by rw [HN.out]; rfl), bA⟩) | (exfalso; simp at *; omega)
        · go_enter Tryd.func49, Tryd.ntmps49
          go_wp2_with (go_at_call 55; refine H1.out.mono ?_; rintro e w' ⟨rfl, rfl⟩)
          all_goals first | (go_ret; exact ⟨Pl.ret_str (by rw [HN.out]; rfl), bA⟩) | (exfalso; simp at *; omega)
      · have hy : ((m : Int) + 1 == (lt.size : Int) - 1) = false := by simp; omega
        have hd : decide ((m : Int) + 1 < (lt.size : Int) - 1) = true := by simp; omega
        have hq3 : (m : Int) + 1 + 1 = ((m + 2 : Nat) : Int) := by omega
        have hq4 : IntKind.i64.wrap ((m + 2 : Nat) : Int) = ((m + 2 : Nat) : Int) := IntWalk.i64_in _ (by omega)
        by_cases hr : Cd.bt lt (m + 1 + 1) = 46
        · have hx2 : (Cd.bt lt (m + 2) == 46) = true := by simp [hr]
          have HN : Hid (res = Pl.ap qe 69 (Pl.ap true 65 (Pl.ap false 87 ⟨#[]⟩))) := show _ = _ by
            have e1 := HW.out
            have e2 := HA.out
            rw [HE.out, show qa = true by rw [e2]; simp [*] <;> omega, show qw = false by rw [e1]; simp [*] <;> omega]
          clear HE HW HA
          try clear hl
          cases qe
          · go_enter Tryd.func49, Tryd.ntmps49
            go_wp2_with (go_at_call 55; refine H1.out.mono ?_; rintro e w' ⟨rfl, rfl⟩)
            all_goals first | (go_ret; exact ⟨Pl.ret_str (by rw [HN.out]; rfl), bA⟩) | (exfalso; simp at *; omega)
          · go_enter Tryd.func49, Tryd.ntmps49
            go_wp2_with (go_at_call 55; refine H1.out.mono ?_; rintro e w' ⟨rfl, rfl⟩)
            all_goals first | (go_ret; exact ⟨Pl.ret_str (by rw [HN.out]; rfl), bA⟩) | (exfalso; simp at *; omega)
        · have hx2 : (Cd.bt lt (m + 2) == 46) = false := by simp; exact hr
          have HN : Hid (res = Pl.ap qe 69 (Pl.ap false 65 (Pl.ap false 87 ⟨#[]⟩))) := show _ = _ by
            have e1 := HW.out
            have e2 := HA.out
            rw [HE.out, show qa = false by rw [e2]; simp [*] <;> omega, show qw = false by rw [e1]; simp [*] <;> omega]
          clear HE HW HA
          try clear hl
          cases qe
          · go_enter Tryd.func49, Tryd.ntmps49
            go_wp2_with (go_at_call 55; refine H1.out.mono ?_; rintro e w' ⟨rfl, rfl⟩)
            all_goals first | (go_ret; exact ⟨Pl.ret_str (by rw [HN.out]; rfl), bA⟩) | (exfalso; simp at *; omega)
          · go_enter Tryd.func49, Tryd.ntmps49
            go_wp2_with (go_at_call 55; refine H1.out.mono ?_; rintro e w' ⟨rfl, rfl⟩)
            all_goals first | (go_ret; exact ⟨Pl.ret_str (by rw [HN.out]; rfl), bA⟩) | (exfalso; simp at *; omega)
end Go.Proofs.YtonfkonjkgalhaaDoor
