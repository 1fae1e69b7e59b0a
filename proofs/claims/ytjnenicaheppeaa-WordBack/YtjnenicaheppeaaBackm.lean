/- Plain facts: what is read back of a number in bytes of seven bits, and that each number has one such text. -/
import Derived.Test.YtjnenicaheppeaaRead
namespace Go.Proofs.Ytjnenicaheppeaa
namespace Wd

theorem vpre_cons (n k : Nat) : vpre n (k + 1) = UInt8.ofNat (n % 128 + 128) :: vpre (n / 128) k := by
  unfold vpre
  rw [List.range_succ_eq_map, List.map_cons, List.map_map]
  congr 1
  · simp
  · apply List.map_congr_left
    intro i _
    simp [Nat.pow_succ', Nat.div_div_eq_div_mul]
theorem varK_succ (n k : Nat) : varK n (k + 1) = UInt8.ofNat (n % 128 + 128) :: varK (n / 128) k := by
  unfold varK
  rw [vpre_cons, Nat.pow_succ', Nat.div_div_eq_div_mul]
  rfl
theorem vsz_unique (n t : Nat) (h1 : n < 128 ^ (t + 1)) (h2 : t = 0 ∨ 128 ^ t ≤ n) : t = vsz n := by
  have g1 := vsz_lt n
  rcases Nat.lt_trichotomy t (vsz n) with h | h | h
  · have g2 := vsz_le n (by omega)
    have := Nat.pow_le_pow_right (n := 128) (by omega) (show t + 1 ≤ vsz n by omega)
    omega
  · exact h
  · have := Nat.pow_le_pow_right (n := 128) (by omega) (show vsz n + 1 ≤ t by omega)
    omega

theorem ofNat_toNat (x : Nat) (h : x < 256) : (UInt8.ofNat x).toNat = x := by simp [UInt8.toNat_ofNat']; omega

/-- Reading what was laid: k bytes are left. -/
theorem rd_varK (rest : List UInt8) (k : Nat) : ∀ (i a m : Nat), i + k ≤ 9 → m / 128 ^ k < 128 → (k = 0 → i = 0 ∨ 0 < m) → (0 < k → 128 ^ k ≤ m) → (i + k = 9 → m / 128 ^ k ≤ 1) → rd i a (varK m k ++ rest) = (a + m * 128 ^ i, i + k + 1, 0) := by
  induction k with
  | zero =>
    intro i a m hi hm h0 _ h9
    simp only [Nat.pow_zero, Nat.div_one] at hm h9
    have e : (UInt8.ofNat m).toNat = m := ofNat_toNat m (by omega)
    have e0 : varK m 0 ++ rest = UInt8.ofNat m :: rest := by simp [varK, vpre]
    rw [e0, rd, e, if_neg (by have := h0 rfl; omega), if_pos hm]
  | succ k ih =>
    intro i a m hi hm _ hp h9
    have hp1 := hp (by omega)
    have e : (UInt8.ofNat (m % 128 + 128)).toNat = m % 128 + 128 := ofNat_toNat _ (by omega)
    rw [varK_succ, List.cons_append, rd, e, if_neg (by omega), if_neg (by omega), show (m % 128 + 128) % 128 = m % 128 by omega]
    have hd : m / 128 ^ (k + 1) = m / 128 / 128 ^ k := by rw [Nat.pow_succ', Nat.div_div_eq_div_mul]
    have hq : 128 ^ k ≤ m / 128 := by
      rw [Nat.le_div_iff_mul_le (by omega), ← Nat.pow_succ]
      exact hp1
    have hq1 : 0 < 128 ^ k := Nat.pow_pos (by omega)
    rw [ih (i + 1) _ (m / 128) (by omega) (by rw [← hd]; exact hm) (fun _ => Or.inr (by omega)) (fun _ => hq) (fun h => by rw [← hd]; exact h9 (by omega))]
    have h1 : m * 128 ^ i = m % 128 * 128 ^ i + m / 128 * 128 ^ (i + 1) := by
      rw [Nat.pow_succ', ← Nat.mul_assoc, ← Nat.add_mul]
      congr 1
      omega
    rw [h1, show i + 1 + k + 1 = i + (k + 1) + 1 by omega, Nat.add_assoc]
theorem rd_var (n : Nat) (rest : List UInt8) (h : n < 18446744073709551616) : rd 0 0 (varL n ++ rest) = (n, (varL n).length, 0) := by
  have h9 := vsz_bd n h
  have := rd_varK rest (vsz n) 0 0 n (by omega) (vsz_last n) (fun _ => Or.inl rfl) (fun hp => vsz_le n (by omega)) (fun e => by
    have e9 : vsz n = 9 := by omega
    rw [e9]
    have : n / 128 ^ 9 < 2 := (Nat.div_lt_iff_lt_mul (by decide)).2 (by simpa using h)
    omega)
  rw [length_varL]
  simpa [varL] using this

theorem rd_bound (l : List UInt8) : ∀ (i a : Nat) (v s e : Nat), i ≤ 9 → a < 128 ^ i → rd i a l = (v, s, e) → v < 18446744073709551616 := by
  induction l with
  | nil =>
    intro i a v s e _ _ h
    simp only [rd, Prod.mk.injEq] at h
    omega
  | cons c cs ih =>
    intro i a v s e hi ha h
    have hc := c.toNat_lt
    by_cases hb : (i = 9 ∧ 1 < c.toNat) ∨ (0 < i ∧ c.toNat = 0)
    · rw [rd, if_pos hb] at h
      simp only [Prod.mk.injEq] at h
      omega
    · by_cases hs : c.toNat < 128
      · rw [rd, if_neg hb, if_pos hs] at h
        simp only [Prod.mk.injEq] at h
        have hp : (c.toNat + 1) * 128 ^ i ≤ 18446744073709551616 := by
          rcases Nat.lt_or_ge i 9 with g | g
          · exact Nat.le_trans (Nat.mul_le_mul (show c.toNat + 1 ≤ 128 by omega) (Nat.pow_le_pow_right (by omega) (show i ≤ 8 by omega))) (by decide)
          · have e9 : i = 9 := by omega
            subst e9
            exact Nat.le_trans (Nat.mul_le_mul (show c.toNat + 1 ≤ 2 by omega) (Nat.le_refl _)) (by decide)
        rw [Nat.succ_mul] at hp
        omega
      · rw [rd, if_neg hb, if_neg hs] at h
        exact ih (i + 1) _ v s e (by omega) (grows a _ i ha (by omega)) h

/-- What was read was laid with just these bytes. -/
theorem rd_back (l : List UInt8) : ∀ (i a v s : Nat), rd i a l = (v, s, 0) → ∃ t m, s = i + t + 1 ∧ t < l.length ∧ l.take (t + 1) = varK m t ∧ v = a + m * 128 ^ i ∧ m < 128 ^ (t + 1) ∧ (t = 0 ∨ 128 ^ t ≤ m) ∧ (0 < i → 0 < m) := by
  induction l with
  | nil =>
    intro i a v s h
    simp [rd] at h
  | cons c cs ih =>
    intro i a v s h
    have hc := c.toNat_lt
    by_cases hb : (i = 9 ∧ 1 < c.toNat) ∨ (0 < i ∧ c.toNat = 0)
    · rw [rd, if_pos hb] at h
      simp at h
    · by_cases hs : c.toNat < 128
      · rw [rd, if_neg hb, if_pos hs] at h
        simp only [Prod.mk.injEq] at h
        refine ⟨0, c.toNat, by omega, by simp, ?_, h.1.symm, by simpa using hs, Or.inl rfl, by omega⟩
        simp [varK, vpre]
      · rw [rd, if_neg hb, if_neg hs] at h
        obtain ⟨t, m, h1, h2, h3, h4, h5, h6, h7⟩ := ih (i + 1) _ v s h
        have hm := h7 (by omega)
        refine ⟨t + 1, c.toNat % 128 + 128 * m, by omega, by simp; omega, ?_, ?_, ?_, Or.inr ?_, by omega⟩
        · rw [varK_succ, List.take_succ_cons, h3, show (c.toNat % 128 + 128 * m) / 128 = m by omega, show (c.toNat % 128 + 128 * m) % 128 + 128 = c.toNat by omega, UInt8.ofNat_toNat]
        · rw [h4, Nat.pow_succ', Nat.add_mul, Nat.add_assoc]
          congr 2
          rw [← Nat.mul_assoc, Nat.mul_comm m 128]
        · rw [Nat.pow_succ']
          omega
        · rw [Nat.pow_succ']
          rcases h6 with h6 | h6
          · subst h6
            simp
            omega
          · omega
theorem rd_ok (l : List UInt8) (v s : Nat) (h : rd 0 0 l = (v, s, 0)) : 1 ≤ s ∧ s ≤ l.length ∧ l.take s = varL v := by
  obtain ⟨t, m, h1, h2, h3, h4, h5, h6, _⟩ := rd_back l 0 0 v s h
  have hv : v = m := by simpa using h4
  subst hv
  have ht := vsz_unique v t h5 h6
  refine ⟨by omega, by omega, ?_⟩
  rw [h1, Nat.zero_add, h3, varL, ← ht]
theorem rd_err (l : List UInt8) (i a v s e : Nat) (h : rd i a l = (v, s, e)) (he : e ≠ 0) : v = 0 ∧ s = 0 := by
  induction l generalizing i a with
  | nil =>
    simp only [rd, Prod.mk.injEq] at h
    omega
  | cons c cs ih =>
    rw [rd] at h
    split at h
    · simp only [Prod.mk.injEq] at h
      omega
    · split at h
      · simp only [Prod.mk.injEq] at h
        omega
      · exact ih _ _ h
/-- Two numbers have two unlike texts, neither the beginning of the other. -/
theorem var_unlike (a b : Nat) (ha : a < 18446744073709551616) (hb : b < 18446744073709551616) (n : Nat) (hn : n = min (varL a).length (varL b).length) (h : (varL a).take n = (varL b).take n) : a = b := by
  rcases Nat.le_total (varL a).length (varL b).length with hl | hl
  · rw [Nat.min_eq_left hl] at hn
    subst hn
    rw [List.take_length] at h
    have e : varL b = varL a ++ (varL b).drop (varL a).length := by
      conv => lhs; rw [← List.take_append_drop (varL a).length (varL b)]
      rw [← h]
    have h1 := rd_var a ((varL b).drop (varL a).length) ha
    have h2 := rd_var b [] hb
    rw [← e] at h1
    rw [List.append_nil, h1] at h2
    exact (Prod.mk.inj h2).1
  · rw [Nat.min_eq_right hl] at hn
    subst hn
    rw [List.take_length] at h
    have e : varL a = varL b ++ (varL a).drop (varL b).length := by
      conv => lhs; rw [← List.take_append_drop (varL b).length (varL a)]
      rw [h]
    have h1 := rd_var b ((varL a).drop (varL b).length) hb
    have h2 := rd_var a [] ha
    rw [← e] at h1
    rw [List.append_nil, h1] at h2
    exact (Prod.mk.inj h2).1.symm
end Wd
end Go.Proofs.Ytjnenicaheppeaa
