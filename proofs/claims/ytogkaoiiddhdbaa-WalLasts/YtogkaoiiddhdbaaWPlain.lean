/- Plain arithmetic of check sums, bytes and numbers: no Go text is spoken of here. -/
import Derived.Laws.BitsAllLaws
import Derived.Laws.Bits64
namespace Go.Proofs.Ytogkaoiiddhdbaa
namespace Wd

/-! ### Check sums -/
def step (s : Nat) : Nat := if s % 2 = 1 then (s / 2) ^^^ 3988292384 else s / 2
def steps : Nat → Nat → Nat
  | 0, s => s
  | k + 1, s => step (steps k s)
def crcOn (s : Nat) (l : List UInt8) : Nat := l.foldl (fun s c => steps 8 (s ^^^ c.toNat)) s
def crc (l : List UInt8) : Nat := 4294967295 - crcOn 4294967295 l
def crcs (s : Nat) (ps : List (List UInt8)) : Nat := ps.foldl crcOn s

theorem step_lt {s : Nat} (h : s < 4294967296) : step s < 4294967296 := by
  unfold step
  split
  · exact Nat.xor_lt_two_pow (n := 32) (by omega) (by omega)
  · omega
theorem steps_lt {s : Nat} (k : Nat) (h : s < 4294967296) : steps k s < 4294967296 := by
  induction k with
  | zero => exact h
  | succ k ih => exact step_lt ih
theorem xor_byte_lt {s : Nat} (h : s < 4294967296) (c : UInt8) : s ^^^ c.toNat < 4294967296 :=
  Nat.xor_lt_two_pow (n := 32) h (by have := c.toNat_lt; omega)
theorem crcOn_lt {s : Nat} (h : s < 4294967296) (l : List UInt8) : crcOn s l < 4294967296 := by
  induction l generalizing s with
  | nil => exact h
  | cons c l ih => exact ih (steps_lt 8 (xor_byte_lt h c))
theorem crcOn_append (s : Nat) (l m : List UInt8) : crcOn s (l ++ m) = crcOn (crcOn s l) m := by simp [crcOn]
theorem crcOn_snoc (s : Nat) (l : List UInt8) (c : UInt8) : crcOn s (l ++ [c]) = steps 8 (crcOn s l ^^^ c.toNat) := by simp [crcOn]
theorem crcs_eq (s : Nat) (ps : List (List UInt8)) : crcs s ps = crcOn s ps.flatten := by
  induction ps generalizing s with
  | nil => rfl
  | cons p ps ih => show crcs (crcOn s p) ps = _; rw [ih, List.flatten_cons, crcOn_append]
theorem crcs_lt {s : Nat} (h : s < 4294967296) (ps : List (List UInt8)) : crcs s ps < 4294967296 := by rw [crcs_eq]; exact crcOn_lt h _
theorem crcs_snoc (s : Nat) (ps : List (List UInt8)) (p : List UInt8) : crcs s (ps ++ [p]) = crcOn (crcs s ps) p := by simp [crcs]

theorem xor_cancel {x y z : Nat} (h : x ^^^ z = y ^^^ z) : x = y := by
  have := congrArg (fun t => t ^^^ z) h
  simpa [Nat.xor_assoc] using this
theorem xor_cancel' {x y z : Nat} (h : z ^^^ x = z ^^^ y) : x = y := by
  rw [Nat.xor_comm z x, Nat.xor_comm z y] at h
  exact xor_cancel h
theorem testBit_small {x : Nat} (h : x < 2147483648) : x.testBit 31 = false := Nat.testBit_lt_two_pow (i := 31) (by omega)
theorem step_inj {s t : Nat} (hs : s < 4294967296) (ht : t < 4294967296) (h : step s = step t) : s = t := by
  have bs := testBit_small (x := s / 2) (by omega)
  have bt := testBit_small (x := t / 2) (by omega)
  have bp : Nat.testBit 3988292384 31 = true := by decide
  unfold step at h
  by_cases h1 : s % 2 = 1 <;> by_cases h2 : t % 2 = 1
  · rw [if_pos h1, if_pos h2] at h
    have := xor_cancel h
    omega
  · rw [if_pos h1, if_neg h2] at h
    have := congrArg (fun x => x.testBit 31) h
    simp only [Nat.testBit_xor, bs, bt, bp] at this
    simp at this
  · rw [if_neg h1, if_pos h2] at h
    have := congrArg (fun x => x.testBit 31) h
    simp only [Nat.testBit_xor, bs, bt, bp] at this
    simp at this
  · rw [if_neg h1, if_neg h2] at h
    omega
theorem steps_inj {s t : Nat} (k : Nat) (hs : s < 4294967296) (ht : t < 4294967296) (h : steps k s = steps k t) : s = t := by
  induction k with
  | zero => exact h
  | succ k ih => exact ih (step_inj (steps_lt k hs) (steps_lt k ht) h)
theorem crcOn_inj {s t : Nat} (l : List UInt8) (hs : s < 4294967296) (ht : t < 4294967296) (h : crcOn s l = crcOn t l) : s = t := by
  induction l generalizing s t with
  | nil => exact h
  | cons c l ih =>
    have := steps_inj 8 (xor_byte_lt hs c) (xor_byte_lt ht c) (ih (steps_lt 8 (xor_byte_lt hs c)) (steps_lt 8 (xor_byte_lt ht c)) h)
    exact xor_cancel this
theorem crc_turn (a b : List UInt8) (c d : UInt8) : (crc (a ++ c :: b) = crc (a ++ d :: b)) ↔ c = d := by
  refine ⟨fun h => ?_, fun h => by rw [h]⟩
  have z : (4294967295 : Nat) < 4294967296 := by omega
  have h1 := crcOn_lt z (a ++ c :: b)
  have h2 := crcOn_lt z (a ++ d :: b)
  have h3 : crcOn 4294967295 (a ++ c :: b) = crcOn 4294967295 (a ++ d :: b) := by unfold crc at h; omega
  rw [crcOn_append, crcOn_append] at h3
  have za := crcOn_lt z a
  have h4 : crcOn (steps 8 (crcOn 4294967295 a ^^^ c.toNat)) b = crcOn (steps 8 (crcOn 4294967295 a ^^^ d.toNat)) b := h3
  have h5 := crcOn_inj b (steps_lt 8 (xor_byte_lt za c)) (steps_lt 8 (xor_byte_lt za d)) h4
  have h6 := steps_inj 8 (xor_byte_lt za c) (xor_byte_lt za d) h5
  exact UInt8.toNat_inj.1 (xor_cancel' h6)

/-- One bit of the document's sum. -/
def rstep (c bit : Nat) : Nat := if bit = c % 2 then c / 2 else (c / 2) ^^^ 3988292384
def rsteps (b : Nat) : Nat → Nat → Nat
  | 0, c => c
  | k + 1, c => rstep (rsteps b k c) (b / 2 ^ k % 2)
theorem rstep_lt {c : Nat} (bit : Nat) (h : c < 4294967296) : rstep c bit < 4294967296 := by
  unfold rstep
  split
  · omega
  · exact Nat.xor_lt_two_pow (n := 32) (by omega) (by omega)
theorem rsteps_lt {c : Nat} (b k : Nat) (h : c < 4294967296) : rsteps b k c < 4294967296 := by
  induction k with
  | zero => exact h
  | succ k ih => exact rstep_lt _ ih
theorem xor_half (x y : Nat) : (x ^^^ y) / 2 = x / 2 ^^^ y / 2 := by
  have := Nat.shiftRight_xor_distrib (a := x) (b := y) (i := 1)
  simpa [Nat.shiftRight_succ] using this
theorem xor_mod (x y : Nat) : (x ^^^ y) % 2 = (x % 2 + y % 2) % 2 := by
  have e : (x ^^^ y) % 2 ^ 1 = x % 2 ^ 1 ^^^ y % 2 ^ 1 := Nat.xor_mod_two_pow
  simp only [Nat.pow_one] at e
  rw [e]
  rcases Nat.mod_two_eq_zero_or_one x with h | h <;> rcases Nat.mod_two_eq_zero_or_one y with g | g <;> rw [h, g] <;> rfl
theorem steps_rsteps (c b k : Nat) : steps k (c ^^^ b) = rsteps b k c ^^^ (b / 2 ^ k) := by
  induction k with
  | zero => simp [steps, rsteps]
  | succ k ih =>
    show step (steps k (c ^^^ b)) = rstep (rsteps b k c) (b / 2 ^ k % 2) ^^^ (b / 2 ^ (k + 1))
    rw [ih, Nat.pow_succ, ← Nat.div_div_eq_div_mul]
    generalize rsteps b k c = x
    generalize b / 2 ^ k = y
    unfold step rstep
    rw [xor_half, xor_mod]
    by_cases h : y % 2 = x % 2
    · rw [if_pos h, if_neg (by omega)]
    · rw [if_neg h, if_pos (by omega), Nat.xor_assoc, Nat.xor_comm (y / 2), ← Nat.xor_assoc]
theorem rsteps_byte (c : Nat) (b : UInt8) : rsteps b.toNat 8 c = steps 8 (c ^^^ b.toNat) := by
  rw [steps_rsteps, show b.toNat / 2 ^ 8 = 0 from Nat.div_eq_of_lt b.toNat_lt, Nat.xor_zero]

end Wd
end Go.Proofs.Ytogkaoiiddhdbaa
