/- Contracts of the laws' own helpers: Record, Texts, Same. -/
import Derived.Test.YtogkaoiiddhdbaaFrm
namespace Go.Proofs.Ytogkaoiiddhdbaa
open Go.RowKit

namespace Wl
def clampR (x : Int) : Nat := if x < 0 then 0 else if 10000 < x then 10000 else x.toNat
/-- A record of some bytes, again and again; the first k of it laid. -/
def recTo (l : List UInt8) (n k : Nat) : List UInt8 := (List.range n).map fun j => if j < k then l.getD (j % l.length) 0 else 0
def recL (l : List UInt8) (x : Int) : List UInt8 := recTo l (clampR x) (clampR x)
theorem length_recTo (l : List UInt8) (n k : Nat) : (recTo l n k).length = n := by simp [recTo]
theorem length_recL (l : List UInt8) (x : Int) : (recL l x).length = clampR x := length_recTo _ _ _
theorem clampR_le (x : Int) : clampR x ≤ 10000 := by unfold clampR; split <;> (try split) <;> omega
theorem get_recTo (l : List UInt8) (n k j : Nat) (hj : j < n) : (recTo l n k)[j]? = some (if j < k then l.getD (j % l.length) 0 else 0) := by
  rw [recTo, List.getElem?_map, List.getElem?_range hj]; rfl
theorem recTo_zero (l : List UInt8) (n : Nat) : recTo l n 0 = nul n := by
  apply List.ext_getElem?
  intro j
  by_cases hj : j < n
  · rw [get_recTo l n 0 j hj, nul, List.getElem?_replicate, if_pos hj]; rfl
  · rw [List.getElem?_eq_none (by rw [length_recTo]; omega), List.getElem?_eq_none (by rw [length_nul]; omega)]
theorem recTo_nil (n k : Nat) : recTo [] n k = nul n := by
  apply List.ext_getElem?
  intro j
  by_cases hj : j < n
  · rw [get_recTo [] n k j hj, nul, List.getElem?_replicate, if_pos hj]; simp
  · rw [List.getElem?_eq_none (by rw [length_recTo]; omega), List.getElem?_eq_none (by rw [length_nul]; omega)]
theorem recTo_succ (l : List UInt8) (n k : Nat) (_hk : k < n) : (recTo l n k).set k (l.getD (k % l.length) 0) = recTo l n (k + 1) := by
  apply List.ext_getElem?
  intro j
  by_cases hj : j < n
  · rw [List.getElem?_set, get_recTo l n (k + 1) j hj]
    by_cases h : k = j
    · subst h; rw [if_pos rfl, if_pos (by rw [length_recTo]; omega), if_pos (by omega)]
    · rw [if_neg h, get_recTo l n k j hj]
      congr 1
      by_cases h2 : j < k
      · rw [if_pos h2, if_pos (by omega)]
      · rw [if_neg h2, if_neg (by omega)]
  · rw [List.getElem?_eq_none (by rw [List.length_set, length_recTo]; omega), List.getElem?_eq_none (by rw [length_recTo]; omega)]
end Wl
set_option maxHeartbeats 400000 in
theorem record_mid (A : Option Addr) (l : List UInt8) (c n : Nat) (w : World) (G : Nat → Prop) (h : Dk.Bts w G A l) (hl : l.length ≤ 9223372036854775807) (hn : n ≤ 10000) :
    Calls Try.prog 17 #[.slice A l.length c, .int .i64 (n : Int)] w fun e w' => e = .returned (.slice (some ⟨w.heap.size, 0, none⟩) n n) ∧ Hid (Dk.Row w' w.heap.size 5 (Wl.recTo l n n)) ∧ Below w.heap.size w w' := by
  have H := Lib.hid h.lt
  clear h
  have hn0 : ¬ (n : Int) < 0 := by omega
  have hn1 : ¬ 10000 < (n : Int) := by omega
  by_cases hz : l.length = 0
  · have hl0 : l = [] := List.eq_nil_of_length_eq_zero hz
    subst hl0
    go_enter Try.func17, Try.ntmps17
    go_wp2_with (at_make; refine Wl.wpList_make rfl _ _ rfl _ _ n rfl rfl rfl rfl (by omega) ?_; intro w1 HR hb hlt)
    go_loopw [6] (fun i wr => i = .int .i64 0 ∧ wr = w1) (fun _ _ => 0)
    case atStart => exact ⟨rfl, rfl⟩
    case round =>
      obtain ⟨rfl, rfl⟩ := hrel
      rw [← Wl.recTo_nil n n] at HR
      by_cases hp : 0 < n
      · go_wp2
        go_ret
        exact ⟨rfl, HR, hb⟩
      · have hp2 : n = 0 := by omega
        subst hp2
        go_wp2
        go_ret
        exact ⟨rfl, HR, hb⟩
  · obtain ⟨b, off, rfl, _, hc⟩ := H.out (by omega)
    have HC : Hid (∀ w1, Below w.heap.size w w1 → ∀ j (hj : j < l.length), w1.cell? ⟨b, off + j, none⟩ = some (.int .u8 (l[j].toNat : Int))) := fun w1 hb j hj =>
      (hb.cell (p := ⟨b, off + j, none⟩) (World.block_lt_of_cell? w ⟨b, off + j, none⟩ (hc j hj))).trans (hc j hj)
    have hlp : 0 < l.length := by omega
    clear hc H
    go_enter Try.func17, Try.ntmps17
    go_wp2_with (at_make; refine Wl.wpList_make rfl _ _ rfl _ _ n rfl rfl rfl rfl (by omega) ?_; intro w1 HR hb hlt)
    go_loopw [6] (fun i wr => ∃ j : Nat, j ≤ n ∧ i = .int .i64 j ∧ Hid (Dk.Row wr w.heap.size 5 (Wl.recTo l n j)) ∧ Below w.heap.size w wr) (fun i _ => n - (intOf i).toNat)
    case atStart => exact ⟨0, by omega, rfl, by rw [Wl.recTo_zero]; exact HR, hb⟩
    case round =>
      obtain ⟨j, hj, rfl, HRj, hbj⟩ := hrel
      by_cases hj2 : j < n
      · have hm : j % l.length < l.length := Nat.mod_lt _ (by omega)
        have hlen := Wl.length_recTo l n j
        have hc1 := HC.out wr hbj (j % l.length) hm
        have hc2 := HRj.out.cell j (by omega)
        have hf2 := HRj.out.free j
        have HN := Lib.hid (HRj.out.set j (l.getD (j % l.length) 0))
        rw [Wl.recTo_succ l n j hj2] at HN
        have hgd : l.getD (j % l.length) 0 = l[j % l.length] := by simp [List.getD, hm]
        rw [hgd] at HN
        have hbn := hbj.setCell (p := ⟨w.heap.size, j, none⟩) (Nat.le_refl _) (.int .u8 (l[j % l.length].toNat : Int))
        clear hgd
        go_wp2
        go_roundw
        case rel => exact ⟨j + 1, by omega, by go_num, HN, hbn⟩
        case measure => simp [intOf]; omega
      · have HE : Hid (Dk.Row wr w.heap.size 5 (Wl.recTo l n n)) := by
          rw [show j = n by omega] at HRj
          exact HRj
        go_wp2
        go_ret
        exact ⟨rfl, HE, hbj⟩
set_option maxHeartbeats 400000 in
theorem record_high (A : Option Addr) (l : List UInt8) (c : Nat) (x : Int) (w : World) (G : Nat → Prop) (h : Dk.Bts w G A l) (hl : l.length ≤ 9223372036854775807) (hx : 10000 < x) (N : Nat) (hN : N = 10000) :
    Calls Try.prog 17 #[.slice A l.length c, .int .i64 x] w fun e w' => e = .returned (.slice (some ⟨w.heap.size, 0, none⟩) N N) ∧ Hid (Dk.Row w' w.heap.size 5 (Wl.recTo l N N)) ∧ Below w.heap.size w w' := by
  have hx0 : ¬ x < 0 := by omega
  have HN := Lib.hid hN
  have hNi : (10000 : Int) = (N : Int) := by omega
  have HNi := Lib.hid hNi
  clear hN hNi
  have H := Lib.hid h.lt
  clear h
  by_cases hz : l.length = 0
  · have hl0 : l = [] := List.eq_nil_of_length_eq_zero hz
    subst hl0
    go_enter Try.func17, Try.ntmps17
    go_wp2_with (at_make; refine Wl.wpList_make rfl _ _ rfl _ _ N rfl rfl HNi.out HNi.out (by have := HN.out; omega) ?_; intro w1 HR hb hlt)
    go_loopw [6] (fun i wr => i = .int .i64 0 ∧ wr = w1) (fun _ _ => 0)
    case atStart => exact ⟨rfl, rfl⟩
    case round =>
      obtain ⟨rfl, rfl⟩ := hrel
      rw [← Wl.recTo_nil N N] at HR
      go_wp2
      go_ret
      exact ⟨rfl, HR, hb⟩
  · obtain ⟨b, off, rfl, _, hc⟩ := H.out (by omega)
    have HC : Hid (∀ w1, Below w.heap.size w w1 → ∀ j (hj : j < l.length), w1.cell? ⟨b, off + j, none⟩ = some (.int .u8 (l[j].toNat : Int))) := fun w1 hb j hj =>
      (hb.cell (p := ⟨b, off + j, none⟩) (World.block_lt_of_cell? w ⟨b, off + j, none⟩ (hc j hj))).trans (hc j hj)
    have hlp : 0 < l.length := by omega
    clear hc H
    go_enter Try.func17, Try.ntmps17
    go_wp2_with (at_make; refine Wl.wpList_make rfl _ _ rfl _ _ N rfl rfl HNi.out HNi.out (by have := HN.out; omega) ?_; intro w1 HR hb hlt)
    go_loopw [6] (fun i wr => ∃ j : Nat, j ≤ N ∧ i = .int .i64 j ∧ Hid (Dk.Row wr w.heap.size 5 (Wl.recTo l N j)) ∧ Below w.heap.size w wr) (fun i _ => N - (intOf i).toNat)
    case atStart => exact ⟨0, by omega, rfl, by rw [Wl.recTo_zero]; exact HR, hb⟩
    case round =>
      obtain ⟨j, hj, rfl, HRj, hbj⟩ := hrel
      have hNN := HN.out
      by_cases hj2 : j < N
      · have hj3 : (j : Int) < 10000 := by omega
        clear hNN
        have hm : j % l.length < l.length := Nat.mod_lt _ (by omega)
        have hlen := Wl.length_recTo l N j
        have hc1 := HC.out wr hbj (j % l.length) hm
        have hc2 := HRj.out.cell j (by omega)
        have hf2 := HRj.out.free j
        have HN := Lib.hid (HRj.out.set j (l.getD (j % l.length) 0))
        rw [Wl.recTo_succ l N j hj2] at HN
        have hgd : l.getD (j % l.length) 0 = l[j % l.length] := by simp [List.getD, hm]
        rw [hgd] at HN
        have hbn := hbj.setCell (p := ⟨w.heap.size, j, none⟩) (Nat.le_refl _) (.int .u8 (l[j % l.length].toNat : Int))
        clear hgd
        go_wp2
        go_roundw
        case rel => exact ⟨j + 1, by omega, by go_num, HN, hbn⟩
        case measure => simp [intOf]; omega
      · have hj3 : ¬ (j : Int) < 10000 := by omega
        have HE : Hid (Dk.Row wr w.heap.size 5 (Wl.recTo l N N)) := by
          rw [show j = N by omega] at HRj
          exact HRj
        clear hNN
        go_wp2
        go_ret
        exact ⟨rfl, HE, hbj⟩
theorem record_low (A : Option Addr) (l : List UInt8) (c : Nat) (x : Int) (w : World) (hx : x < 0) :
    Calls Try.prog 17 #[.slice A l.length c, .int .i64 x] w fun e w' => e = .returned (.slice (some ⟨w.heap.size, 0, none⟩) 0 0) ∧ Hid (Dk.Row w' w.heap.size 5 []) ∧ Below w.heap.size w w' := by
  go_enter Try.func17, Try.ntmps17
  go_wp2_with (at_make; refine Wl.wpList_make rfl _ _ rfl _ _ 0 rfl rfl rfl rfl (by omega) ?_; intro w1 HR hb hlt)
  go_loopw [6] (fun i wr => i = .int .i64 0 ∧ wr = w1) (fun _ _ => 0)
  case atStart => exact ⟨rfl, rfl⟩
  case round =>
    obtain ⟨rfl, rfl⟩ := hrel
    go_wp2
    go_ret
    exact ⟨rfl, HR, hb⟩
theorem record_any (A : Option Addr) (l : List UInt8) (c n : Nat) (x : Int) (w : World) (G : Nat → Prop) (h : Dk.Bts w G A l) (hl : l.length ≤ 9223372036854775807) (hn : n = l.length) :
    Calls Try.prog 17 #[.slice A n c, .int .i64 x] w fun e w' => e = .returned (.slice (some ⟨w.heap.size, 0, none⟩) (Wl.clampR x) (Wl.clampR x)) ∧ Hid (Dk.Row w' w.heap.size 5 (Wl.recL l x)) ∧ Below w.heap.size w w' := by
  subst hn
  by_cases h0 : x < 0
  · have e : Wl.clampR x = 0 := by unfold Wl.clampR; rw [if_pos h0]
    have := record_low A l c x w h0
    unfold Wl.recL
    rw [e]
    exact this
  · by_cases h1 : 10000 < x
    · have e : Wl.clampR x = 10000 := by unfold Wl.clampR; rw [if_neg h0, if_pos h1]
      exact record_high A l c x w G h hl h1 (Wl.clampR x) e
    · obtain ⟨n, rfl⟩ := Int.eq_ofNat_of_zero_le (show 0 ≤ x by omega)
      have e : Wl.clampR (n : Int) = n := by unfold Wl.clampR; rw [if_neg h0, if_neg h1]; simp
      have := record_mid A l c n w G h hl (by omega)
      unfold Wl.recL
      rw [e]
      exact this
end Go.Proofs.Ytogkaoiiddhdbaa
