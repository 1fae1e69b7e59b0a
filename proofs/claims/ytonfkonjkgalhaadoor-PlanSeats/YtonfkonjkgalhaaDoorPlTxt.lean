/- Contracts of Text, and what it calls. -/
import Derived.Test.YtonfkonjkgalhaaDoorPlHas
import Derived.WalkSpells
namespace Go.Proofs.YtonfkonjkgalhaaDoor
open Go.RowKit Go.WideMaps
set_option linter.unusedVariables false

namespace Pl
/-- A row's digits. -/
def dig (n : Nat) : ByteArray := if n < 10 then ⟨#[(48 + n).toUInt8]⟩ else ⟨#[(48 + n / 10).toUInt8, (48 + n % 10).toUInt8]⟩
theorem dig_size (n : Nat) : (dig n).size ≤ 2 := by unfold dig; split <;> simp [ByteArray.size]
theorem enc_ascii (c : Int) (h0 : 0 ≤ c) (h1 : c ≤ 127) : Utf8.encode c = ⟨#[c.toNat.toUInt8]⟩ := by
  have hv : Utf8.valid c = true := by simp [Utf8.valid]; omega
  unfold Utf8.encode
  simp only [hv, if_true]
  rw [if_pos (by omega)]
theorem small1 (s : ByteArray) (n : Nat) (h : n < 10) (hs : ∀ m, m < 10 → s.extract m (m + 1) = dig m) : s.extract n (n + 1) = dig n := hs n h
theorem small2 (s : ByteArray) (n : Nat) (h : n < 100) (h2 : ¬ n < 10) (hs : ∀ m, m < 100 → ¬ m < 10 → s.extract (m * 2) (m * 2 + 2) = dig m) : s.extract (n * 2) (n * 2 + 2) = dig n := hs n h h2
end Pl
set_option maxRecDepth 20000 in
theorem small_any (n : Nat) (w : World) (h0 : 1 ≤ n) (h1 : n ≤ 99) : Calls Tryd.prog 57 #[.int .i64 n] w fun e w' => e = .returned (.string (Pl.dig n)) ∧ w = w' := by
  by_cases h : n < 10
  · go_enter Tryd.func57, Tryd.ntmps57
    go_wp2
    go_ret
    refine ⟨Pl.ret_str ?_, rfl⟩
    exact Pl.small1 _ n h (by decide +kernel)
  · go_enter Tryd.func57, Tryd.ntmps57
    go_wp2
    go_ret
    refine ⟨Pl.ret_str ?_, rfl⟩
    exact Pl.small2 _ n (by omega) h (by decide +kernel)
theorem formatInt_any (n : Nat) (w : World) (h0 : 1 ≤ n) (h1 : n ≤ 99) : Calls Tryd.prog 53 #[.int .i64 n, .int .i64 10] w fun e w' => e = .returned (.string (Pl.dig n)) ∧ w = w' := by
  go_enter Tryd.func53, Tryd.ntmps53
  go_wp2_with (go_at_call 57; refine (small_any n _ h0 h1).mono ?_; rintro e w' ⟨rfl, rfl⟩)
  go_ret
  exact ⟨rfl, rfl⟩
theorem litoa_any (n : Nat) (w : World) (h0 : 1 ≤ n) (h1 : n ≤ 99) : Calls Tryd.prog 47 #[.int .i64 n] w fun e w' => e = .returned (.string (Pl.dig n)) ∧ w = w' := by
  go_enter Tryd.func47, Tryd.ntmps47
  go_wp2_with (go_at_call 53; refine (formatInt_any n _ h0 h1).mono ?_; rintro e w' ⟨rfl, rfl⟩)
  go_ret
  exact ⟨rfl, rfl⟩
theorem itoa_any (n : Nat) (w : World) (h0 : 1 ≤ n) (h1 : n ≤ 99) : Calls Tryd.prog 36 #[.int .i64 n] w fun e w' => e = .returned (.string (Pl.dig n)) ∧ w = w' := by
  go_enter Tryd.func36, Tryd.ntmps36
  go_wp2_with (go_at_call 47; refine (litoa_any n _ h0 h1).mono ?_; rintro e w' ⟨rfl, rfl⟩)
  go_ret
  exact ⟨rfl, rfl⟩
namespace Pl
def rowT (n : Int) : Bool := decide (1 ≤ n) && decide (n ≤ 99)
/-- A seat's text. -/
def txt (s : S) : ByteArray := if rowT s.1 && Cd.isL s.2 then dig s.1.toNat ++ ⟨#[s.2.toNat.toUInt8]⟩ else ⟨#[]⟩
end Pl
set_option maxHeartbeats 1000000 in
set_option maxRecDepth 20000 in
theorem text_any (s : Pl.S) (w : World) (h0 : 0 ≤ s.2) (h1 : s.2 ≤ 255) : Calls Tryd.prog 10 #[Pl.sv s] w fun e w' => e = .returned (.string (Pl.txt s)) ∧ Below w.heap.size w w' := by
  have HE : Hid (Pl.txt s = if Pl.rowT s.1 && Cd.isL s.2 then Pl.dig s.1.toNat ++ ⟨#[s.2.toNat.toUInt8]⟩ else ⟨#[]⟩) := show _ = _ by rfl
  have HR : Hid (Pl.rowT s.1 = (decide (1 ≤ s.1) && decide (s.1 ≤ 99))) := show _ = _ by rfl
  have HIL := Lib.hid (fun w => isLetter_any s.2 w)
  obtain ⟨s1, s2⟩ := s
  unfold Pl.sv
  simp only at HE HR HIL h0 h1 ⊢
  have HB : Hid (∀ n, Below w.heap.size w ((w.alloc (.cells #[.int .i64 s1, .int .u8 s2] 23)).drewN n)) := fun n => Pl.below_drewN ((Below.refl w.heap.size w).alloc (Nat.le_refl _) _) n
  generalize Pl.txt (s1, s2) = res at *
  generalize Pl.rowT s1 = q1 at *
  have hL : Cd.isL s2 = true → 65 ≤ s2 ∧ s2 ≤ 90 := fun h => by simpa [Cd.isL] using h
  generalize Cd.isL s2 = q2 at *
  by_cases r0 : 1 ≤ s1
  · by_cases r1 : s1 ≤ 99
    · have hq : q1 = true := by rw [HR.out, decide_eq_true r0, decide_eq_true r1]; rfl
      subst hq
      cases q2 with
      | true =>
        obtain ⟨l0, l1⟩ := hL rfl
        have HN : Hid (res = Pl.dig s1.toNat ++ ⟨#[s2.toNat.toUInt8]⟩) := show _ = _ by rw [HE.out]; rfl
        obtain ⟨n, rfl⟩ : ∃ n : Nat, s1 = (n : Int) := ⟨s1.toNat, by omega⟩
        rw [Int.toNat_natCast] at HN
        have HI := Lib.hid (fun w => itoa_any n w (by omega) (by omega))
        clear hL HE HR
        have K := Pl.Sc.new ((n : Int), s2) w
        have c0 : (w.alloc (.cells #[.int .i64 n, .int .u8 s2] 23)).cell? ⟨w.heap.size, 0, none⟩ = some (.int .i64 n) := K.1
        have c1 : (w.alloc (.cells #[.int .i64 n, .int .u8 s2] 23)).cell? ⟨w.heap.size, 1, none⟩ = some (.int .u8 s2) := K.2
        clear K
        have hz := Pl.dig_size n
        have hwr : IntKind.i32.wrap s2 = s2 := by simp [IntKind.wrap, IntKind.bits, IntKind.signed]; omega
        have henc := Pl.enc_ascii s2 (by omega) (by omega)
        have hz1 : (⟨#[s2.toNat.toUInt8]⟩ : ByteArray).size = 1 := rfl
        generalize (⟨#[s2.toNat.toUInt8]⟩ : ByteArray) = ls at *
        go_enter Tryd.func10, Tryd.ntmps10
        go_wp2_with (first | (go_at_call 35; refine (HIL.out _).mono ?_; rintro e w' ⟨rfl, rfl⟩))
        go_quiet ((go_at_call 36; exact Calls.quiet_of_same ((HI.out _).mono (fun _ _ h => ⟨h.1, h.2.symm⟩))))
        go_wp2
        go_ret
        exact ⟨Pl.ret_str HN.out.symm, HB.out _⟩
      | false =>
        have HN : Hid (res = ⟨#[]⟩) := show _ = _ by rw [HE.out]; rfl
        clear hL HE HR
        go_enter Tryd.func10, Tryd.ntmps10
        go_wp2_with (first | (go_at_call 35; refine (HIL.out _).mono ?_; rintro e w' ⟨rfl, rfl⟩))
        go_ret
        exact ⟨Pl.ret_str HN.out.symm, HB.out 0⟩
    · have hq : q1 = false := by rw [HR.out, decide_eq_false r1]; simp
      subst hq
      have HN : Hid (res = ⟨#[]⟩) := show _ = _ by rw [HE.out]; rfl
      clear hL HE HR
      have hd : decide (99 < s1) = true := by simp; omega
      go_enter Tryd.func10, Tryd.ntmps10
      go_wp2_with (first | (go_at_call 35; refine (HIL.out _).mono ?_; rintro e w' ⟨rfl, rfl⟩))
      go_ret
      exact ⟨Pl.ret_str HN.out.symm, HB.out 0⟩
  · have hq : q1 = false := by rw [HR.out, decide_eq_false r0]; rfl
    subst hq
    have HN : Hid (res = ⟨#[]⟩) := show _ = _ by rw [HE.out]; rfl
    clear hL HE HR
    go_enter Tryd.func10, Tryd.ntmps10
    go_wp2_with (first | (go_at_call 35; refine (HIL.out _).mono ?_; rintro e w' ⟨rfl, rfl⟩))
    go_ret
    exact ⟨Pl.ret_str HN.out.symm, HB.out 0⟩
end Go.Proofs.YtonfkonjkgalhaaDoor
