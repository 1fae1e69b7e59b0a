/- What a disk is in memory: the struct, its two maps, the row of the writes that wait; how it is kept. -/
import Derived.Test.YtogkaoiiddhdbaaRows
import Derived.WalkKit
import Derived.Lib.Hide
import Derived.Lib.Walk
import Derived.Below
import Derived.MapKept
import Derived.Laws.AppendOwn
import Derived.Laws.BytesArg
import Derived.Laws.IdiomStrings
import Derived.Laws.CopyOwn
import Derived.Deep.OwnRows
import Derived.Deep.MidRow
namespace Go.Proofs.Ytogkaoiiddhdbaa
open Go.RowKit

namespace Dk
def cell8 (c : UInt8) : Value := .int .u8 (c.toNat : Int)
def cells8 (l : List UInt8) : List Value := l.map cell8
theorem length_cells8 (l : List UInt8) : (cells8 l).length = l.length := by simp [cells8]
theorem get_cells8 (l : List UInt8) (j : Nat) (hj : j < l.length) : (cells8 l)[j]? = some (.int .u8 (l[j].toNat : Int)) := by
  simp [cells8, cell8, hj]
theorem one_cells8 (l : List UInt8) : ∀ v ∈ cells8 l, v.oneCell' = true := by
  intro v hv
  obtain ⟨c, _, rfl⟩ := List.mem_map.1 hv
  rfl
theorem add_plain (b off j : Nat) : (⟨b, off, none⟩ : Addr).add j = ⟨b, off + j, none⟩ := by unfold Addr.add; split <;> simp_all
def zeros : List UInt8 := List.replicate 512 0
theorem length_zeros : zeros.length = 512 := List.length_replicate

/-- What a disk holds. -/
structure S where
  n : Int
  safe : Int → Option (List UInt8)
  wait : List (Int × List UInt8)
  down : Bool
  fused : Bool
  left : Int

/-- The place of the last write to k. -/
def ixFrom (k : Int) : List (Int × List UInt8) → Nat → Option Nat → Option Nat
  | [], _, acc => acc
  | x :: r, o, acc => ixFrom k r (o + 1) (if x.1 = k then some o else acc)
def lastIx (l : List (Int × List UInt8)) (k : Int) : Option Nat := ixFrom k l 0 none
/-- The bytes of the last write to k; else acc. -/
def lastFrom (k : Int) : List (Int × List UInt8) → Option (List UInt8) → Option (List UInt8)
  | [], acc => acc
  | x :: r, acc => lastFrom k r (if x.1 = k then some x.2 else acc)
def lastW (l : List (Int × List UInt8)) (k : Int) : Option (List UInt8) := lastFrom k l none

theorem ixFrom_snoc (k : Int) (x : Int × List UInt8) : ∀ (l : List (Int × List UInt8)) (o : Nat) (acc : Option Nat), ixFrom k (l ++ [x]) o acc = if x.1 = k then some (o + l.length) else ixFrom k l o acc
  | [], o, acc => by simp [ixFrom]
  | y :: r, o, acc => by
    rw [List.cons_append, ixFrom, ixFrom_snoc k x r, ixFrom]
    simp only [List.length_cons]
    rw [show o + 1 + r.length = o + (r.length + 1) by omega]
theorem lastIx_snoc (l : List (Int × List UInt8)) (x : Int × List UInt8) (k : Int) : lastIx (l ++ [x]) k = if x.1 = k then some l.length else lastIx l k := by
  unfold lastIx; rw [ixFrom_snoc]; simp
theorem lastFrom_append (k : Int) : ∀ (l m : List (Int × List UInt8)) (acc : Option (List UInt8)), lastFrom k (l ++ m) acc = lastFrom k m (lastFrom k l acc)
  | [], m, acc => rfl
  | y :: r, m, acc => by rw [List.cons_append, lastFrom, lastFrom_append k r, lastFrom]
theorem lastFrom_or (k : Int) : ∀ (l : List (Int × List UInt8)) (acc : Option (List UInt8)), lastFrom k l acc = (match lastFrom k l none with | some b => some b | none => acc)
  | [], acc => rfl
  | y :: r, acc => by
    rw [lastFrom, lastFrom_or k r, lastFrom, lastFrom_or k r (if y.1 = k then some y.2 else none)]
    cases lastFrom k r none with
    | some b => rfl
    | none => by_cases h : y.1 = k <;> simp [h]
theorem lastW_snoc (l : List (Int × List UInt8)) (x : Int × List UInt8) (k : Int) : lastW (l ++ [x]) k = if x.1 = k then some x.2 else lastW l k := by
  unfold lastW; rw [lastFrom_append]; simp [lastFrom]
theorem ixFrom_last (k : Int) : ∀ (l pre : List (Int × List UInt8)) (acc : Option Nat) (accb : Option (List UInt8)),
    (∀ i, acc = some i → ∃ b, pre[i]? = some (k, b) ∧ accb = some b) → (acc = none → accb = none) →
    (∀ i, ixFrom k l pre.length acc = some i → ∃ b, (pre ++ l)[i]? = some (k, b) ∧ lastFrom k l accb = some b) ∧ (ixFrom k l pre.length acc = none → lastFrom k l accb = none)
  | [], pre, acc, accb, h1, h2 => by simpa [ixFrom, lastFrom] using ⟨h1, h2⟩
  | y :: r, pre, acc, accb, h1, h2 => by
    have := ixFrom_last k r (pre ++ [y]) (if y.1 = k then some pre.length else acc) (if y.1 = k then some y.2 else accb)
      (fun i hi => by
        by_cases hy : y.1 = k
        · rw [if_pos hy] at hi ⊢
          injection hi with hi
          subst hi
          exact ⟨y.2, by simp [← hy], rfl⟩
        · rw [if_neg hy] at hi ⊢
          obtain ⟨b, hb, e⟩ := h1 i hi
          have hlt : i < pre.length := (List.getElem?_eq_some_iff.1 hb).1
          exact ⟨b, by rw [List.getElem?_append_left hlt]; exact hb, e⟩)
      (fun hi => by
        by_cases hy : y.1 = k
        · rw [if_pos hy] at hi; cases hi
        · rw [if_neg hy] at hi ⊢; exact h2 hi)
    simpa [ixFrom, lastFrom] using this
theorem lastIx_some {l : List (Int × List UInt8)} {k : Int} {i : Nat} (h : lastIx l k = some i) : ∃ b, l[i]? = some (k, b) ∧ lastW l k = some b := by
  have := (ixFrom_last k l [] none none (by simp) (by simp)).1 i h
  simpa [lastW] using this
theorem lastIx_none {l : List (Int × List UInt8)} {k : Int} (h : lastIx l k = none) : lastW l k = none :=
  (ixFrom_last k l [] none none (by simp) (by simp)).2 h

/-- The bytes of a sector. -/
def S.get (s : S) (k : Int) : List UInt8 := match lastW s.wait k with
  | some b => b
  | none => (s.safe k).getD zeros
def S.has (s : S) (i : Int) : Bool := decide (0 ≤ i) && decide (i < s.n)
def S.burn (s : S) : S := if s.fused = false then s else if s.left = 0 then { s with down := true } else { s with left := s.left - 1 }
/-- The writes of a row, done. -/
def doneOver (f : Int → Option (List UInt8)) (l : List (Int × List UInt8)) : Int → Option (List UInt8) := fun k => lastFrom k l (f k)
def S.forget (s : S) : S := { s with wait := [] }
def S.put (s : S) (i : Int) (b : List UInt8) : S := { s with wait := s.wait ++ [(i, b)] }
/-- Those of a row that are kept. -/
def kept : List (Int × List UInt8) → List Bool → List (Int × List UInt8)
  | [], _ => []
  | _ :: _, [] => []
  | x :: r, b :: m => if b then x :: kept r m else kept r m
def S.restart (s : S) (keep : List Bool) : S := { n := s.n, safe := doneOver s.safe (kept s.wait keep), wait := [], down := false, fused := false, left := 0 }
def S.done (s : S) : S := { s with safe := doneOver s.safe s.wait, wait := [] }

/-- What a map keyed by ints holds at a key. -/
def lk : List MapEntry → Int → Option Value
  | [], _ => none
  | e :: r, k => match e.key with
    | .int .i64 j => if j = k then some e.val else lk r k
    | _ => lk r k
def IntKeys (l : List MapEntry) : Prop := ∀ e ∈ l, ∃ k, e.key = .int .i64 k
def MapAt (w : World) (r : Nat) (f : Int → Option Value) : Prop := ∃ es ck, w.heap[r]? = some (.map es ck) ∧ IntKeys es.toList ∧ ∀ k, lk es.toList k = f k

theorem findNow_lk (k : Int) : ∀ (l : List MapEntry) (i : Nat), IntKeys l → ∃ r, Instr.findNow (.int .i64) (.int .i64 k) l i = some r ∧ r.map (·.2) = lk l k ∧ ∀ j v, r = some (j, v) → i ≤ j ∧ ∃ e, l[j - i]? = some e ∧ e.key = .int .i64 k
  | [], i, _ => ⟨none, rfl, rfl, by simp⟩
  | e :: r, i, h => by
    obtain ⟨j, hj⟩ := h e (by simp)
    by_cases hk : k = j
    · subst hk
      exact ⟨some (i, e.val), by simp [Instr.findNow, hj, Instr.sameNow], by simp [lk, hj], by
        intro a v hv
        injection hv with hv
        injection hv with h1 h2
        subst h1
        exact ⟨Nat.le_refl _, e, by simp, hj⟩⟩
    · obtain ⟨q, h1, h2, h3⟩ := findNow_lk k r (i + 1) (fun e' he => h e' (by simp [he]))
      have hb : (k == j) = false := by simpa using hk
      refine ⟨q, by simp [Instr.findNow, hj, Instr.sameNow, hb, h1], by rw [h2]; simp [lk, hj, Ne.symm hk], ?_⟩
      intro a v hv
      obtain ⟨g1, e', g2, g3⟩ := h3 a v hv
      refine ⟨by omega, e', ?_, g3⟩
      rw [show a - i = (a - (i + 1)) + 1 by omega]
      simpa using g2

theorem lk_push (k : Int) (v : Value) (b : Nat) : ∀ (l : List MapEntry), lk l k = none → ∀ j, lk (l ++ [⟨.int .i64 k, v, b⟩]) j = if j = k then some v else lk l j
  | [], _, j => by by_cases h : k = j <;> simp [lk, h, eq_comm]
  | e :: r, h, j => by
    rw [List.cons_append]
    unfold lk at h ⊢
    split
    · rename_i q hq
      rw [hq] at h
      simp only at h
      by_cases hk : q = k
      · rw [if_pos hk] at h; cases h
      · rw [if_neg hk] at h
        by_cases hj : q = j
        · subst hj; simp [hk]
        · rw [if_neg hj, if_neg hj]; exact lk_push k v b r h j
    · rename_i hq
      split at h
      · rename_i q hq'; exact absurd hq' (hq q)
      · exact lk_push k v b r h j
theorem lk_modify (k : Int) (v : Value) : ∀ (l : List MapEntry) (i : Nat), (∃ e, l[i]? = some e ∧ e.key = .int .i64 k) → (∀ i' < i, ∀ e, l[i']? = some e → e.key ≠ .int .i64 k) → ∀ j, lk (l.modify i fun e => { e with key := .int .i64 k, val := v }) j = if j = k then some v else lk l j
  | [], i, ⟨e, h, _⟩, _, j => by simp at h
  | e :: r, 0, ⟨e', h, hk⟩, _, j => by
    simp at h
    subst h
    by_cases hj : k = j
    · subst hj; simp [lk]
    · simp [lk, hk, hj, Ne.symm hj]
  | e :: r, i + 1, ⟨e', h, hk⟩, hm, j => by
    have := lk_modify k v r i ⟨e', by simpa using h, hk⟩ (fun i' hi e'' he => hm (i' + 1) (by omega) e'' (by simpa using he)) j
    have h0 : e.key ≠ .int .i64 k := hm 0 (by omega) e (by simp)
    rw [List.modify_succ_cons]
    unfold lk
    split
    · rename_i q hq
      have hqk : q ≠ k := fun e1 => h0 (by rw [hq, e1])
      by_cases hj : q = j
      · subst hj; simp [hqk]
      · rw [if_neg hj, if_neg hj]; exact this
    · exact this
theorem findNow_first (k : Int) : ∀ (l : List MapEntry) (i j : Nat) (v : Value), IntKeys l → Instr.findNow (.int .i64) (.int .i64 k) l i = some (some (j, v)) → ∀ i', i' < j - i → ∀ e, l[i']? = some e → e.key ≠ .int .i64 k
  | [], i, j, v, _, h => by simp [Instr.findNow] at h
  | e :: r, i, j, v, hI, h => by
    obtain ⟨q, hq⟩ := hI e (by simp)
    unfold Instr.findNow at h
    rw [hq] at h
    by_cases hk : k = q
    · subst hk
      simp [Instr.sameNow] at h
      intro i' hi'
      omega
    · have hb : (k == q) = false := by simpa using hk
      simp only [Instr.sameNow, hb, if_true] at h
      have hI' : IntKeys r := fun e' he => hI e' (by simp [he])
      intro i' hi' e' he'
      cases i' with
      | zero =>
        simp at he'
        subst he'
        rw [hq]
        intro e2
        injection e2 with _ e2
        exact hk e2.symm
      | succ i' =>
        obtain ⟨q', h1, _, h3⟩ := findNow_lk k r (i + 1) hI'
        rw [h1] at h
        injection h with h
        subst h
        have := (h3 j v rfl).1
        exact findNow_first k r (i + 1) j v hI' h1 i' (by omega) e' (by simpa using he')
end Dk
end Go.Proofs.Ytogkaoiiddhdbaa
