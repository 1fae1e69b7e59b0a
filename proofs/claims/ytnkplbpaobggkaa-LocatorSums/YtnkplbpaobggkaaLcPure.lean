/- Locators as numbers: what a number is scattered to, its six letters, and back. -/
import Derived.Test.YtnkplbpaobggkaaCdKinds
namespace Go.Proofs.Ytnkplbpaobggkaa
open Go.RowKit
set_option linter.unusedVariables false

namespace Lc
def sc (n : Nat) : Nat := (n * 123456789 + 98765432) % 308915776
def ga (v : Nat) : Nat := (v + 308915776 - 98765432) * 76133565 % 308915776
theorem sc_lt (n : Nat) : sc n < 308915776 := Nat.mod_lt _ (by decide)
theorem ga_lt (n : Nat) : ga n < 308915776 := Nat.mod_lt _ (by decide)
theorem ga_sc (n : Nat) (h : n < 308915776) : ga (sc n) = n := by unfold ga sc; omega
theorem sc_ga (v : Nat) (h : v < 308915776) : sc (ga v) = v := by unfold ga sc; omega
/-- Letter j from the left. -/
def dn (v j : Nat) : Nat := 65 + v / 26 ^ (5 - j) % 26
def dg (v j : Nat) : UInt8 := UInt8.ofNat (dn v j)
theorem dn_lt (v j : Nat) : dn v j < 91 := by unfold dn; omega
theorem dn_ge (v j : Nat) : 65 ≤ dn v j := by unfold dn; omega
theorem dg_nat (v j : Nat) : (dg v j).toNat = dn v j := by
  unfold dg; rw [UInt8.toNat_ofNat']; have := dn_lt v j; omega
def sp (v : Nat) : List UInt8 := (List.range 6).map (dg v)
theorem sp_len (v : Nat) : (sp v).length = 6 := by simp [sp]
theorem sp_get (v j : Nat) (h : j < (sp v).length) : (sp v)[j] = dg v j := by simp [sp]
def spell (v : Nat) : ByteArray := ⟨(sp v).toArray⟩
theorem spell_size (v : Nat) : (spell v).size = 6 := by
  show (sp v).toArray.size = 6
  simp [sp_len]
/-- The number of the letters, to the base 26. -/
def vl (l : List Int) : Nat := l.foldl (fun x c => x * 26 + (c - 65).toNat) 0
theorem vl_step (s : ByteArray) (k : Nat) (h : k < s.size) : vl ((Cd.bs s).take (k + 1)) = vl ((Cd.bs s).take k) * 26 + (Cd.bt s k - 65).toNat := by
  unfold vl; rw [Cd.take_succ s k h, List.foldl_append]; rfl
theorem bs_spell (v : Nat) : Cd.bs (spell v) = (List.range 6).map fun j => (dn v j : Int) := by
  unfold Cd.bs spell sp
  simp [dg_nat]
theorem vl_spell (v : Nat) (h : v < 308915776) : vl (Cd.bs (spell v)) = v := by
  rw [bs_spell]
  have e1 : v / 26 ^ 1 = v / 26 := by rw [Nat.pow_one]
  have e2 : v / 26 ^ 2 = v / 26 / 26 := by rw [Nat.div_div_eq_div_mul]
  have e3 : v / 26 ^ 3 = v / 26 / 26 / 26 := by rw [Nat.div_div_eq_div_mul, Nat.div_div_eq_div_mul]
  have e4 : v / 26 ^ 4 = v / 26 / 26 / 26 / 26 := by rw [Nat.div_div_eq_div_mul, Nat.div_div_eq_div_mul, Nat.div_div_eq_div_mul]
  have e5 : v / 26 ^ 5 = v / 26 / 26 / 26 / 26 / 26 := by rw [Nat.div_div_eq_div_mul, Nat.div_div_eq_div_mul, Nat.div_div_eq_div_mul, Nat.div_div_eq_div_mul]
  have h5 : v / 26 ^ 5 < 26 := by omega
  have hd : ∀ x : Nat, (((65 + x % 26 : Nat) : Int) - 65).toNat = x % 26 := fun x => by omega
  simp only [vl, dn, List.range, List.range.loop, List.map_cons, List.map_nil, List.foldl_cons, List.foldl_nil, hd, Nat.sub_zero, Nat.reduceSub]
  rw [e5] at h5
  rw [e1, e2, e3, e4, e5, Nat.pow_zero, Nat.div_one]
  generalize hw1 : v / 26 = w1 at *
  generalize hw2 : w1 / 26 = w2 at *
  generalize hw3 : w2 / 26 = w3 at *
  generalize hw4 : w3 / 26 = w4 at *
  generalize hw5 : w4 / 26 = w5 at *
  clear e1 e2 e3 e4 e5 hd h
  omega
theorem spell_letters (v : Nat) : Cd.locator (spell v) = true := by
  unfold Cd.locator
  rw [spell_size, bs_spell]
  simp only [decide_true, Bool.true_and, List.all_eq_true, List.mem_map]
  rintro c ⟨j, _, rfl⟩
  have := dn_lt v j
  have := dn_ge v j
  simp [Cd.isL]; omega
theorem loc_size {s : ByteArray} (h : Cd.locator s = true) : s.size = 6 := by
  unfold Cd.locator at h; simp at h; exact h.1
theorem loc_all {s : ByteArray} (h : Cd.locator s = true) : (Cd.bs s).all Cd.isL = true := by
  unfold Cd.locator at h; rw [Bool.and_eq_true] at h; exact h.2
theorem loc_bt {s : ByteArray} (h : Cd.locator s = true) (k : Nat) (hk : k < 6) : 65 ≤ Cd.bt s k ∧ Cd.bt s k ≤ 90 := by
  have := List.all_eq_true.1 (loc_all h) _ (Cd.bt_mem s k (by rw [loc_size h]; exact hk))
  simpa [Cd.isL] using this
theorem loc_bs {s : ByteArray} (h : s.size = 6) : Cd.bs s = [Cd.bt s 0, Cd.bt s 1, Cd.bt s 2, Cd.bt s 3, Cd.bt s 4, Cd.bt s 5] := by
  have t0 := Cd.take_succ s 0 (by omega)
  have t1 := Cd.take_succ s 1 (by omega)
  have t2 := Cd.take_succ s 2 (by omega)
  have t3 := Cd.take_succ s 3 (by omega)
  have t4 := Cd.take_succ s 4 (by omega)
  have t5 := Cd.take_succ s 5 (by omega)
  have := Cd.take_all s
  rw [h, t5, t4, t3, t2, t1, t0] at this
  rw [← this]; rfl
theorem vl_lt {s : ByteArray} (h : Cd.locator s = true) : vl (Cd.bs s) < 308915776 := by
  rw [loc_bs (loc_size h)]
  have h0 := loc_bt h 0 (by omega)
  have h1 := loc_bt h 1 (by omega)
  have h2 := loc_bt h 2 (by omega)
  have h3 := loc_bt h 3 (by omega)
  have h4 := loc_bt h 4 (by omega)
  have h5 := loc_bt h 5 (by omega)
  simp only [vl, List.foldl_cons, List.foldl_nil]
  omega
theorem bs_inj {s t : ByteArray} (h : Cd.bs s = Cd.bs t) : s = t := by
  apply ByteArray.ext
  apply Array.toList_inj.1
  unfold Cd.bs at h
  exact List.map_inj_right (fun a b e => by have : a.toNat = b.toNat := by omega
                                            exact UInt8.toNat_inj.1 this) |>.1 h
theorem spell_vl {s : ByteArray} (h : Cd.locator s = true) : spell (vl (Cd.bs s)) = s := by
  apply bs_inj
  rw [bs_spell, loc_bs (loc_size h)]
  have h0 := loc_bt h 0 (by omega)
  have h1 := loc_bt h 1 (by omega)
  have h2 := loc_bt h 2 (by omega)
  have h3 := loc_bt h 3 (by omega)
  have h4 := loc_bt h 4 (by omega)
  have h5 := loc_bt h 5 (by omega)
  simp only [vl, dn, List.range, List.range.loop, List.map_cons, List.map_nil, List.foldl_cons, List.foldl_nil, List.cons.injEq, and_true]
  refine ⟨?_, ?_, ?_, ?_, ?_, ?_⟩ <;> omega
def loc (n : Nat) : ByteArray := spell (sc n)
def num (s : ByteArray) : Nat := ga (vl (Cd.bs s))
theorem loc_size6 (n : Nat) : (loc n).size = 6 := spell_size _
theorem loc_is (n : Nat) : Cd.locator (loc n) = true := spell_letters _
theorem num_loc (n : Nat) (h : n < 308915776) : num (loc n) = n := by
  unfold num loc; rw [vl_spell _ (sc_lt n), ga_sc n h]
theorem num_lt (s : ByteArray) : num s < 308915776 := ga_lt _
theorem loc_num {s : ByteArray} (h : Cd.locator s = true) : loc (num s) = s := by
  unfold num loc; rw [sc_ga _ (vl_lt h), spell_vl h]
theorem loc_inj {a b : Nat} (ha : a < 308915776) (hb : b < 308915776) (h : loc a = loc b) : a = b := by
  rw [← num_loc a ha, h, num_loc b hb]
/-- The row of six bytes, its last k laid. -/
def row (v k : Nat) : List UInt8 := (List.range 6).map fun j => if 6 - k ≤ j then dg v j else 0
theorem row_len (v k : Nat) : (row v k).length = 6 := by simp [row]
theorem row_get (v k j : Nat) (h : j < (row v k).length) : (row v k)[j] = if 6 - k ≤ j then dg v j else 0 := by simp [row]
theorem row_zero (v : Nat) : row v 0 = [0, 0, 0, 0, 0, 0] := by simp [row, List.range, List.range.loop]
theorem row_all (v : Nat) : row v 6 = sp v := by simp [row, sp]
theorem row_succ (v k : Nat) (h : k < 6) : (row v k).set (5 - k) (dg v (5 - k)) = row v (k + 1) := by
  apply List.ext_getElem
  · simp [row_len]
  · intro j h1 h2
    rw [List.getElem_set, row_get, row_get]
    by_cases e : 5 - k = j
    · subst e; rw [if_pos rfl, if_pos (by omega)]
    · rw [if_neg e]
      by_cases e2 : 6 - k ≤ j
      · rw [if_pos e2, if_pos (by omega)]
      · rw [if_neg e2, if_neg (by omega)]
theorem dg_step (v k : Nat) (h : k < 6) : ((dg v (5 - k)).toNat : Int) = 65 + ((v / 26 ^ k : Nat) : Int) % 26 := by
  rw [dg_nat, dn, show 5 - (5 - k) = k by omega]; omega
theorem pow_step (v k : Nat) : v / 26 ^ k / 26 = v / 26 ^ (k + 1) := by
  rw [Nat.div_div_eq_div_mul, Nat.pow_succ]
theorem sp_drop (v k : Nat) (h : k < 6) : dg v (5 - k) :: (sp v).drop (6 - k) = (sp v).drop (6 - (k + 1)) := by
  have hl := sp_len v
  have h1 := List.drop_eq_getElem_cons (l := sp v) (i := 5 - k) (by omega)
  rw [sp_get, show 5 - k + 1 = 6 - k by omega] at h1
  rw [show 6 - (k + 1) = 5 - k by omega, h1]
end Lc
end Go.Proofs.Ytnkplbpaobggkaa
