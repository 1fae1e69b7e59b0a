/- Contract of the document's Letters. -/
import Derived.Test.YtonfkonjkgalhaaDoorPlAt
import Derived.Test.YtonfkonjkgalhaaDoorPlAwk
namespace Go.Proofs.YtonfkonjkgalhaaDoor
open Go.RowKit Go.WideMaps
set_option linter.unusedVariables false

namespace Pl
theorem bs_append (a b : ByteArray) : Cd.bs (a ++ b) = Cd.bs a ++ Cd.bs b := by simp [Cd.bs]
theorem bs_one (s : ByteArray) (k : Nat) (h : k < s.size) : Cd.bs (s.extract k (k + 1)) = [Cd.bt s k] := by
  have hl : k < s.data.toList.length := by simpa using h
  have e : (s.extract k (k + 1)).data.toList = [s.data.toList[k]] := by
    rw [ByteArray.data_extract, Array.toList_extract, List.extract_eq_take_drop, Nat.add_sub_cancel_left, List.drop_eq_getElem_cons hl]
    simp
  unfold Cd.bs
  rw [e, ← Cd.get_bt s k h]
  rfl
def lastO (l : ByteArray) : Int := if l.size = 0 then 0 else Cd.bt l (l.size - 1)
def dotAt (s : ByteArray) (k : Nat) : Bool := decide (k = 0) || decide (Cd.bt s (k - 1) = 46)
/-- What is left to be looked at. -/
def lst (s l : ByteArray) (k : Nat) : Bool := decide (l.size ≤ 10) && lf ((Cd.bs s).drop k) l.size (lastO l) (dotAt s k)
theorem lf_len : ∀ (l : List Int) (n : Nat) (g : Int) (a : Bool), lf l n g a = true → n ≤ 10 → l.length ≤ 2 * (10 - n) ∧ (a = true → l.length + 1 ≤ 2 * (10 - n))
  | [], n, g, a, h, hn => ⟨by simp, fun e => by subst e; simp [lf] at h⟩
  | c :: l, n, g, a, h, hn => by
    unfold lf at h
    by_cases hc : c = 46
    · rw [if_pos hc] at h
      cases a with
      | true => simp at h
      | false =>
        have ih := lf_len l n g true (by simpa using h) hn
        have := ih.2 rfl
        exact ⟨by simp only [List.length_cons]; omega, fun e => by simp at e⟩
    · rw [if_neg hc] at h
      by_cases hq : (Cd.isL c && decide (g < c) && decide (n ≠ 10)) = true
      · rw [if_pos hq] at h
        simp only [Bool.and_eq_true, decide_eq_true_eq] at hq
        have ih := lf_len l (n + 1) c false h (by omega)
        have := ih.1
        exact ⟨by simp only [List.length_cons]; omega, fun e => by simp only [List.length_cons]; omega⟩
      · rw [if_neg hq] at h; cases h
theorem lf_dot : ∀ (l : List Int) (n : Nat) (g : Int) (a : Bool), lf (l ++ [46]) n g a = false
  | [], n, g, a => by cases a <;> simp [lf]
  | c :: l, n, g, a => by
    rw [List.cons_append]
    unfold lf
    rw [lf_dot l n g true, lf_dot l (n + 1) c false]
    simp
theorem ok_long {s : ByteArray} (h : 20 < s.size) : lettersOk s = false := by
  rw [Bool.eq_false_iff]
  intro h1
  have := (lf_len _ _ _ _ h1 (by omega)).1
  rw [Cd.length_bs] at this
  omega
theorem ok_nil {s : ByteArray} (h : s.size = 0) : lettersOk s = false := by
  have : Cd.bs s = [] := by rw [← List.length_eq_zero_iff, Cd.length_bs]; exact h
  unfold lettersOk
  rw [this]
  rfl
theorem ok_first {s : ByteArray} (h : 0 < s.size) (h1 : Cd.bt s 0 = 46) : lettersOk s = false := by
  have := drop_bt s 0 h
  rw [List.drop_zero] at this
  unfold lettersOk
  rw [this, h1]
  rfl
theorem ok_last {s : ByteArray} {n : Nat} (h : s.size = n + 1) (h1 : Cd.bt s n = 46) : lettersOk s = false := by
  have := Cd.take_succ s n (by omega)
  rw [← h, Cd.take_all, h1] at this
  unfold lettersOk
  rw [this]
  exact lf_dot _ _ _ _
theorem lst_zero (s : ByteArray) : lettersOk s = lst s ⟨#[]⟩ 0 := rfl
theorem lst_dots {s l : ByteArray} {k : Nat} (h : k < s.size) (hc : Cd.bt s k = 46) (hd : dotAt s k = true) : lst s l k = false := by
  unfold lst
  rw [drop_bt s k h, hd, hc]
  simp [lf]
theorem lst_dot {s l : ByteArray} {k : Nat} (h : k < s.size) (hc : Cd.bt s k = 46) (hd : dotAt s k = false) : lst s l k = lst s l (k + 1) := by
  have e : dotAt s (k + 1) = true := by simp [dotAt, hc]
  unfold lst
  rw [drop_bt s k h, hd, hc, e]
  simp [lf]
theorem lst_bad {s l : ByteArray} {k : Nat} (h : k < s.size) (hc : Cd.bt s k ≠ 46) (hd : Cd.isL (Cd.bt s k) = false) : lst s l k = false := by
  unfold lst
  rw [drop_bt s k h]
  simp [lf, hc, hd]
theorem lst_low {s l : ByteArray} {k : Nat} (h : k < s.size) (hc : Cd.bt s k ≠ 46) (hd : ¬ lastO l < Cd.bt s k) : lst s l k = false := by
  unfold lst
  rw [drop_bt s k h]
  simp [lf, hc, hd]
theorem size_snoc (l s : ByteArray) (k : Nat) (h : k < s.size) : (l ++ s.extract k (k + 1)).size = l.size + 1 := by
  rw [← Cd.length_bs, bs_append, bs_one s k h, List.length_append, Cd.length_bs]
  rfl
theorem last_snoc (l s : ByteArray) (k : Nat) (h : k < s.size) : lastO (l ++ s.extract k (k + 1)) = Cd.bt s k := by
  unfold lastO
  rw [size_snoc l s k h, if_neg (by omega), Nat.add_sub_cancel]
  unfold Cd.bt
  rw [bs_append, bs_one s k h, List.getD_eq_getElem?_getD, ← Cd.length_bs]
  simp [Cd.bt]
theorem lst_add {s l : ByteArray} {k : Nat} (h : k < s.size) (hc : Cd.bt s k ≠ 46) (hL : Cd.isL (Cd.bt s k) = true) (hd : lastO l < Cd.bt s k) : lst s l k = lst s (l ++ s.extract k (k + 1)) (k + 1) := by
  have e : dotAt s (k + 1) = false := by simp [dotAt, hc]
  unfold lst
  rw [drop_bt s k h, e, last_snoc l s k h, size_snoc l s k h]
  rcases Nat.lt_trichotomy l.size 10 with h1 | h1 | h1
  · have a1 : decide (l.size ≤ 10) = true := by simp; omega
    have a2 : decide (l.size + 1 ≤ 10) = true := by simp; omega
    have a3 : l.size ≠ 10 := by omega
    rw [a1, a2]
    simp [lf, hc, hL, hd, a3]
  · have a2 : decide (l.size + 1 ≤ 10) = false := by simp; omega
    rw [a2]
    simp [lf, hc, hL, hd, h1]
  · have a1 : decide (l.size ≤ 10) = false := by simp; omega
    have a2 : decide (l.size + 1 ≤ 10) = false := by simp; omega
    rw [a1, a2]
    rfl
theorem lst_end {s l : ByteArray} {n : Nat} (h : s.size = n + 1) (h1 : Cd.bt s n ≠ 46) : lst s l (n + 1) = decide (l.size ≤ 10) := by
  have e : dotAt s (n + 1) = false := by simp [dotAt, h1]
  unfold lst
  rw [drop_end s (n + 1) (by omega), e]
  simp [lf]
def onlyL (s : ByteArray) (k : Nat) : List Int := ((Cd.bs s).take k).filter fun c => decide (c ≠ 46)
theorem onlyL_dot {s : ByteArray} {k : Nat} (h : k < s.size) (hc : Cd.bt s k = 46) : onlyL s (k + 1) = onlyL s k := by
  unfold onlyL
  rw [Cd.take_succ s k h, List.filter_append]
  simp [hc]
theorem onlyL_add {s : ByteArray} {k : Nat} (h : k < s.size) (hc : Cd.bt s k ≠ 46) : onlyL s (k + 1) = onlyL s k ++ [Cd.bt s k] := by
  unfold onlyL
  rw [Cd.take_succ s k h, List.filter_append]
  simp [hc]
theorem onlyL_all (s : ByteArray) : onlyL s s.size = (Cd.bs s).filter fun c => decide (c ≠ 46) := by
  unfold onlyL
  rw [Cd.take_all]
def LetR (s : ByteArray) (ok : Bool) (w : World) (e : Ending) (w' : World) : Prop := ∃ l : ByteArray, e = .returned (.tuple #[.string l, .bool ok]) ∧ (ok = true → Cd.bs l = (Cd.bs s).filter fun c => decide (c ≠ 46)) ∧ Below w.heap.size w w'
end Pl
set_option maxHeartbeats 2000000 in
set_option maxRecDepth 20000 in
theorem rletters_any (s : ByteArray) (w : World) (hs : s.size ≤ 9223372036854775807) :
    Calls Tryd.prog 39 #[.string s] w (Pl.LetR s (Pl.lettersOk s) w) := by
  have hgb := Cd.get_bt s
  by_cases h0 : s.size = 0
  · have HN := Lib.hid (Pl.ok_nil h0)
    generalize Pl.lettersOk s = res at *
    go_enter Tryd.func39, Tryd.ntmps39
    go_wp2
    go_ret2
    obtain rfl := HN.out
    exact ⟨_, rfl, fun e => (by cases e), Below.refl _ _⟩
  by_cases h20 : 20 < s.size
  · have HN := Lib.hid (Pl.ok_long h20)
    have hd0 : ((s.size : Int) == 0) = false := by rw [beq_eq_false_iff_ne]; omega
    generalize Pl.lettersOk s = res at *
    go_enter Tryd.func39, Tryd.ntmps39
    go_wp2
    go_ret2
    obtain rfl := HN.out
    exact ⟨_, rfl, fun e => (by cases e), Below.refl _ _⟩
  have h00 : 0 < s.size := by omega
  have hd0 : ((s.size : Int) == 0) = false := by rw [beq_eq_false_iff_ne]; omega
  by_cases hf : Cd.bt s 0 = 46
  · have HN := Lib.hid (Pl.ok_first h00 hf)
    have hdf : (Cd.bt s 0 == 46) = true := by simp [hf]
    generalize Pl.lettersOk s = res at *
    clear hf
    go_enter Tryd.func39, Tryd.ntmps39
    go_wp2
    go_ret2
    obtain rfl := HN.out
    exact ⟨_, rfl, fun e => (by cases e), Below.refl _ _⟩
  have hdf : (Cd.bt s 0 == 46) = false := by simp [hf]
  have HF46 := Lib.hid hf
  clear hf
  obtain ⟨n, hn⟩ : ∃ n, s.size = n + 1 := ⟨s.size - 1, by omega⟩
  have hsn : (s.size : Int) - 1 = (n : Int) := by omega
  have hnl : n < s.size := by omega
  by_cases hl : Cd.bt s n = 46
  · have HN := Lib.hid (Pl.ok_last hn hl)
    have hdl : (Cd.bt s n == 46) = true := by simp [hl]
    generalize Pl.lettersOk s = res at *
    clear hl hn
    go_enter Tryd.func39, Tryd.ntmps39
    go_wp2
    go_ret2
    obtain rfl := HN.out
    exact ⟨_, rfl, fun e => (by cases e), Below.refl _ _⟩
  have hdl : (Cd.bt s n == 46) = false := by simp [hl]
  have HEN : Hid (∀ l, Pl.lst s l s.size = decide (l.size ≤ 10)) := fun l => by rw [hn]; exact Pl.lst_end hn hl
  have HST : Hid (Pl.lettersOk s = Pl.lst s ⟨#[]⟩ 0) := Pl.lst_zero s
  clear hl hn
  generalize Pl.lettersOk s = res at *
  have HLT := Lib.hid (fun c w => rletter_any c w)
  go_enter Tryd.func39, Tryd.ntmps39
  go_wp2
  go_loopw [4, 5] (fun lv i wr => ∃ (k : Nat) (l : ByteArray), k ≤ s.size ∧ i = .int .i64 k ∧ lv = .string l ∧ l.size ≤ k ∧ Hid (res = Pl.lst s l k) ∧ Hid (Cd.bs l = Pl.onlyL s k) ∧ Hid (Below w.heap.size w wr)) (fun _ i _ => s.size - (intOf i).toNat)
  case atStart => exact ⟨0, ⟨#[]⟩, by omega, rfl, rfl, Nat.le_refl _, HST, show _ = _ by rfl, Below.refl _ _⟩
  case round =>
    obtain ⟨k, l, hk, rfl, rfl, hlk, HS, HB, HW⟩ := hrel
    obtain ⟨wa, ea⟩ : ∃ x, x = wr := ⟨_, rfl⟩
    subst ea
    clear HST
    by_cases hlt : k < s.size
    · by_cases hc : Cd.bt s k = 46
      · have hx : (Cd.bt s k == 46) = true := by simp [hc]
        obtain ⟨j, hj⟩ : ∃ j, k = j + 1 := ⟨k - 1, by
          rcases Nat.eq_zero_or_pos k with h | h
          · subst h; exact absurd hc HF46.out
          · omega⟩
        have hkj : (k : Int) - 1 = (j : Int) := by omega
        have hjl : j < s.size := by omega
        by_cases hp : Cd.bt s j = 46
        · have HN : Hid (res = false) := show _ = _ by rw [HS.out]; exact Pl.lst_dots hlt hc (by rw [hj]; simp [Pl.dotAt, hp])
          have hx2 : (Cd.bt s j == 46) = true := by simp [hp]
          clear hp hc hj
          go_wp2
          go_ret2
          obtain rfl := HN.out
          exact ⟨_, rfl, fun e => (by cases e), HW.out⟩
        · have HN : Hid (res = Pl.lst s l (k + 1)) := show _ = _ by rw [HS.out]; exact Pl.lst_dot hlt hc (by rw [hj]; simp [Pl.dotAt, hp])
          have HB2 : Hid (Cd.bs l = Pl.onlyL s (k + 1)) := show _ = _ by rw [Pl.onlyL_dot hlt hc]; exact HB.out
          have hx2 : (Cd.bt s j == 46) = false := by simp [hp]
          clear hp hc hj
          go_wp2
          go_roundw
          case rel => exact ⟨k + 1, l, by omega, by go_num, rfl, by omega, HN, HB2, HW⟩
          case measure => simp [intOf]; omega
      · have hx : (Cd.bt s k == 46) = false := by simp [hc]
        have HLi := Lib.hid (fun w => HLT.out (Cd.bt s k) w)
        cases hL : Cd.isL (Cd.bt s k) with
        | false =>
          rw [hL] at HLi
          have HN : Hid (res = false) := show _ = _ by rw [HS.out]; exact Pl.lst_bad hlt hc hL
          clear hc hL
          go_wp2
          go_quiet ((go_at_call 37; exact Calls.quiet_of_same ((HLi.out _).mono (fun _ _ h => ⟨h.1, h.2.symm⟩))))
          go_wp2
          go_ret2
          obtain rfl := HN.out
          exact ⟨_, rfl, fun e => (by cases e), Pl.below_drewN HW.out _⟩
        | true =>
          rw [hL] at HLi
          have HAD : Hid (Pl.lastO l < Cd.bt s k → res = Pl.lst s (l ++ s.extract k (k + 1)) (k + 1)) := fun hd => by rw [HS.out]; exact Pl.lst_add hlt hc hL hd
          have HLW : Hid (¬ Pl.lastO l < Cd.bt s k → res = false) := fun hd => by rw [HS.out]; exact Pl.lst_low hlt hc hd
          have HB2 : Hid (Cd.bs (l ++ s.extract k (k + 1)) = Pl.onlyL s (k + 1)) := show _ = _ by rw [Pl.onlyL_add hlt hc, Pl.bs_append, Pl.bs_one s k hlt, HB.out]
          have HSZ : Hid ((l ++ s.extract k (k + 1)).size = l.size + 1) := Pl.size_snoc l s k hlt
          have h65 : 65 ≤ Cd.bt s k := by simp [Cd.isL] at hL; exact hL.1
          clear hc hL
          by_cases hl0 : l.size = 0
          · have HN : Hid (res = Pl.lst s (l ++ s.extract k (k + 1)) (k + 1)) := HAD.out (by unfold Pl.lastO; rw [if_pos hl0]; omega)
            have hdz : decide ((0 : Int) < (l.size : Int)) = false := decide_eq_false (by omega)
            clear h65
            go_wp2
            go_quiet ((go_at_call 37; exact Calls.quiet_of_same ((HLi.out _).mono (fun _ _ h => ⟨h.1, h.2.symm⟩))))
            go_wp2
            go_roundw
            case rel => exact ⟨k + 1, _, by omega, by go_num, rfl, by rw [HSZ.out]; omega, HN, HB2, Pl.below_drewN HW.out _⟩
            case measure => simp [intOf]; omega
          · obtain ⟨m, hm⟩ : ∃ m, l.size = m + 1 := ⟨l.size - 1, by omega⟩
            have hlm : (l.size : Int) - 1 = (m : Int) := by omega
            have hml : m < l.size := by omega
            have hla : Pl.lastO l = Cd.bt l m := by unfold Pl.lastO; rw [if_neg hl0, hm]; rfl
            rw [hla] at HAD HLW
            have hgl := Cd.get_bt l
            have hpos : 0 < l.size := by omega
            have hposI : (0 : Int) < (l.size : Int) := by omega
            have hdz : decide ((0 : Int) < (l.size : Int)) = true := decide_eq_true hposI
            have hdz2 : decide (0 < l.size) = true := decide_eq_true hpos
            clear h65 hla hm
            by_cases hd : Cd.bt l m < Cd.bt s k
            · have HN := Lib.hid (HAD.out hd)
              have hdd : decide (Cd.bt s k ≤ Cd.bt l m) = false := by simp; omega
              clear hd
              go_wp2
              go_quiet ((go_at_call 37; exact Calls.quiet_of_same ((HLi.out _).mono (fun _ _ h => ⟨h.1, h.2.symm⟩))))
              go_wp2
              go_roundw
              case rel => exact ⟨k + 1, _, by omega, by go_num, rfl, by rw [HSZ.out]; omega, HN, HB2, Pl.below_drewN HW.out _⟩
              case measure => simp [intOf]; omega
            · have HN := Lib.hid (HLW.out hd)
              have hdd : decide (Cd.bt s k ≤ Cd.bt l m) = true := by simp; omega
              clear hd
              go_wp2
              go_quiet ((go_at_call 37; exact Calls.quiet_of_same ((HLi.out _).mono (fun _ _ h => ⟨h.1, h.2.symm⟩))))
              go_wp2
              go_ret2
              obtain rfl := HN.out
              exact ⟨_, rfl, fun e => (by cases e), Pl.below_drewN HW.out _⟩
    · have hke : k = s.size := by omega
      have HN : Hid (res = decide (l.size ≤ 10)) := show _ = _ by rw [HS.out, hke]; exact HEN.out l
      have HB2 : Hid (Cd.bs l = (Cd.bs s).filter fun c => decide (c ≠ 46)) := show _ = _ by rw [HB.out, hke]; exact Pl.onlyL_all s
      clear hke
      by_cases h10 : l.size ≤ 10
      · have HN2 : Hid (res = true) := show _ = _ by rw [HN.out]; simpa using h10
        have hdd : decide ((l.size : Int) ≤ 10) = true := decide_eq_true (by omega)
        go_wp2
        go_ret2
        obtain rfl := HN2.out
        exact ⟨l, rfl, fun _ => HB2.out, HW.out⟩
      · have HN2 : Hid (res = false) := show _ = _ by rw [HN.out]; simpa using h10
        have hdd : decide ((l.size : Int) ≤ 10) = false := decide_eq_false (by omega)
        go_wp2
        go_ret2
        obtain rfl := HN2.out
        exact ⟨l, rfl, fun e => (by cases e), HW.out⟩
end Go.Proofs.YtonfkonjkgalhaaDoor
