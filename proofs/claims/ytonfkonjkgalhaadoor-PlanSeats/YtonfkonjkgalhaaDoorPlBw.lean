/- Bits as numbers of 64 bits. -/
import Derived.Test.YtonfkonjkgalhaaDoorPlSet
namespace Go.Proofs.YtonfkonjkgalhaaDoor
set_option linter.unusedVariables false

namespace Pl
/-- The numbers ws have just the bits f. -/
structure Bw (ws : List Nat) (W : Nat) (f : Nat → Bool) : Prop where
  len : ws.length = W
  lt : ∀ j, gN ws j < 18446744073709551616
  bit : ∀ n, n < 64 * W → on ws n = f n
theorem gN_set {ws : List Nat} {i v j : Nat} (hi : i < ws.length) : gN (ws.set i v) j = if j = i then v else gN ws j := by
  unfold gN
  simp only [List.getD_eq_getElem?_getD, List.getElem?_set]
  by_cases h : i = j
  · subst h; simp [hi]
  · rw [if_neg h, if_neg (fun e => h e.symm)]
theorem Bw.set {ws : List Nat} {W : Nat} {f : Nat → Bool} (h : Bw ws W f) {n : Nat} (hn : n < 64 * W) : Bw (ws.set (n / 64) (gN ws (n / 64) ||| 2 ^ (n % 64))) W (fun m => f m || m == n) := by
  have hi : n / 64 < ws.length := by rw [h.len]; omega
  refine ⟨by rw [List.length_set]; exact h.len, fun j => ?_, fun m hm => ?_⟩
  · rw [gN_set hi]
    split
    · exact Nat.or_lt_two_pow (n := 64) (h.lt _) (Nat.pow_lt_pow_right (by decide) (by omega))
    · exact h.lt j
  · have hb := h.bit m hm
    unfold on at hb ⊢
    rw [gN_set hi]
    by_cases e : m / 64 = n / 64
    · rw [if_pos e, Nat.testBit_or, Nat.testBit_two_pow, ← e, hb]
      congr 1
      rw [Bool.eq_iff_iff, decide_eq_true_iff, beq_iff_eq]
      omega
    · rw [if_neg e, hb]
      have : (m == n) = false := by rw [beq_eq_false_iff_ne]; rintro rfl; exact e rfl
      rw [this, Bool.or_false]
theorem Bw.zero (W : Nat) : Bw (List.replicate W 0) W (fun _ => false) := by
  have hg : ∀ j, gN (List.replicate W 0) j = 0 := fun j => by
    unfold gN
    simp only [List.getD_eq_getElem?_getD, List.getElem?_replicate]
    split <;> rfl
  exact ⟨by simp, fun j => by rw [hg]; decide, fun n _ => by unfold on; rw [hg]; simp⟩
theorem Bw.ext {ws ws' : List Nat} {W : Nat} {f f' : Nat → Bool} (h : Bw ws W f) (h' : Bw ws' W f') (hf : ∀ n, n < 64 * W → f n = f' n) : ws = ws' := by
  apply List.ext_getElem (by rw [h.len, h'.len])
  intro j h1 h2
  have e1 : ws[j] = gN ws j := by simp [gN, List.getD_eq_getElem?_getD, List.getElem?_eq_getElem h1]
  have e2 : ws'[j] = gN ws' j := by simp [gN, List.getD_eq_getElem?_getD, List.getElem?_eq_getElem h2]
  rw [e1, e2]
  apply Nat.eq_of_testBit_eq
  intro i
  by_cases hi : i < 64
  · have hj : 64 * j + i < 64 * W := by have := h.len; omega
    have a := h.bit (64 * j + i) hj
    have b := h'.bit (64 * j + i) hj
    unfold on at a b
    rw [show (64 * j + i) / 64 = j by omega, show (64 * j + i) % 64 = i by omega] at a b
    rw [a, b, hf _ hj]
  · have hp : 18446744073709551616 ≤ 2 ^ i := Nat.pow_le_pow_right (n := 2) (by decide) (show 64 ≤ i by omega)
    rw [Nat.testBit_lt_two_pow (Nat.lt_of_lt_of_le (h.lt j) hp), Nat.testBit_lt_two_pow (Nat.lt_of_lt_of_le (h'.lt j) hp)]
theorem Bw.cong {ws : List Nat} {W : Nat} {f f' : Nat → Bool} (h : Bw ws W f) (hf : ∀ n, n < 64 * W → f n = f' n) : Bw ws W f' := ⟨h.len, h.lt, fun n hn => (h.bit n hn).trans (hf n hn)⟩
def cellsN (l : List Nat) : List Value := l.map fun (n : Nat) => .int .u64 n
theorem cellsN_get (l : List Nat) (j : Nat) (h : j < l.length) : (cellsN l)[j]? = some (.int .u64 (gN l j)) := by
  simp [cellsN, gN, List.getElem?_eq_getElem h, List.getD_eq_getElem?_getD]
theorem cellsN_set (l : List Nat) (i v : Nat) : (cellsN l).set i (.int .u64 v) = cellsN (l.set i v) := by
  simp [cellsN, List.map_set]
theorem cellsN_len (l : List Nat) : (cellsN l).length = l.length := by simp [cellsN]
theorem hasS_mem {p : P} {s : S} (h : hasS p s = true) : s ∈ all p := by
  simp only [hasS, Bool.and_eq_true] at h
  exact List.contains_iff_mem.1 h.1
theorem num_ix {p : P} {s : S} (h : s ∈ all p) : ∃ j, j < (all p).length ∧ num p s = (j : Nat) ∧ (all p)[j]? = some s := by
  have h1 := List.idxOf_lt_length_of_mem h
  refine ⟨(all p).idxOf s, h1, ?_, ?_⟩
  · unfold num; rw [if_pos h]
  · rw [List.getElem?_eq_getElem h1, List.getElem_idxOf h1]
theorem num_inj {p : P} {s t : S} (hs : s ∈ all p) (ht : t ∈ all p) (e : num p s = num p t) : s = t := by
  obtain ⟨j, _, e1, g1⟩ := num_ix hs
  obtain ⟨k, _, e2, g2⟩ := num_ix ht
  have : j = k := by omega
  subst this
  rw [g1] at g2
  injection g2
/-- What Bits sets of the seats l. -/
def bset (p : P) (l : List S) (n : Nat) : Bool := l.any fun s => num p s == (n : Int)
theorem bset_snoc (p : P) (l : List S) (s : S) (j : Nat) (h : num p s = (j : Nat)) : ∀ n, bset p (l ++ [s]) n = (bset p l n || n == j) := fun n => by
  unfold bset
  rw [List.any_append]
  congr 1
  simp only [List.any_cons, List.any_nil, Bool.or_false, h]
  rw [Bool.eq_iff_iff, beq_iff_eq, beq_iff_eq]
  omega
theorem bset_mem {p : P} {l : List S} {s : S} {j : Nat} (hs : s ∈ all p) (h : num p s = (j : Nat)) (hl : ∀ t ∈ l, t ∈ all p) : bset p l j = l.contains s := by
  unfold bset
  rw [Bool.eq_iff_iff, List.any_eq_true, List.contains_iff_mem]
  constructor
  · rintro ⟨t, ht, e⟩
    rw [beq_iff_eq] at e
    rw [num_inj hs (hl t ht) (by omega)]
    exact ht
  · intro hm
    exact ⟨s, hm, by rw [beq_iff_eq]; exact h⟩
end Pl
end Go.Proofs.YtonfkonjkgalhaaDoor
