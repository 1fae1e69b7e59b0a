/- Contract of the document's Read; both at texts of other lengths. -/
import Derived.Test.YtonfkonjkgalhaaDoorPlRtx
namespace Go.Proofs.YtonfkonjkgalhaaDoor
open Go.RowKit Go.WideMaps
set_option linter.unusedVariables false

namespace Pl
theorem txt_of {k : Nat} {c : Int} (h0 : 1 ≤ k) (h1 : k ≤ 99) : txt ((k : Int), c) = if Cd.isL c then dig k ++ ⟨#[c.toNat.toUInt8]⟩ else ⟨#[]⟩ := by
  have hr : rowT (k : Int) = true := by simp [rowT]; omega
  unfold txt
  simp only [hr, Bool.true_and, Int.toNat_natCast]
theorem bt_mk (l : List UInt8) (j : Nat) (hj : j < l.length) : Cd.bt ⟨l.toArray⟩ j = (l[j].toNat : Int) := by
  simp [Cd.bt, Cd.bs, hj, List.getD_eq_getElem?_getD]
theorem row_of {k : Nat} {c : Int} {t : ByteArray} (h0 : 1 ≤ k) (h1 : k ≤ 99) (ht : txt ((k : Int), c) = t) (h2 : 2 ≤ t.size) : rowP t (t.size - 1) = k := by
  rw [txt_of h0 h1] at ht
  cases hL : Cd.isL c with
  | false =>
    rw [hL] at ht
    rw [← ht] at h2
    exact absurd h2 (show ¬ 2 ≤ (⟨#[]⟩ : ByteArray).size by decide)
  | true =>
    rw [hL, if_pos rfl] at ht
    unfold dig at ht
    by_cases h10 : k < 10
    · rw [if_pos h10] at ht
      have e : t = ⟨[(48 + k).toUInt8, c.toNat.toUInt8].toArray⟩ := by rw [← ht]; apply ByteArray.ext; simp
      have hz : t.size = 2 := by rw [e]; rfl
      have b0 := bt_mk [(48 + k).toUInt8, c.toNat.toUInt8] 0 (by simp)
      rw [← e] at b0
      rw [hz]
      show 0 * 10 + Cd.bt t 0 - 48 = _
      rw [b0]
      simp [Nat.toUInt8_eq]
      omega
    · rw [if_neg h10] at ht
      have e : t = ⟨[(48 + k / 10).toUInt8, (48 + k % 10).toUInt8, c.toNat.toUInt8].toArray⟩ := by rw [← ht]; apply ByteArray.ext; simp
      have hz : t.size = 3 := by rw [e]; rfl
      have b0 := bt_mk [(48 + k / 10).toUInt8, (48 + k % 10).toUInt8, c.toNat.toUInt8] 0 (by simp)
      have b1 := bt_mk [(48 + k / 10).toUInt8, (48 + k % 10).toUInt8, c.toNat.toUInt8] 1 (by simp)
      rw [← e] at b0 b1
      rw [hz]
      show (0 * 10 + Cd.bt t 0 - 48) * 10 + Cd.bt t 1 - 48 = _
      rw [b0, b1]
      simp [Nat.toUInt8_eq]
      omega
theorem txt_row {s : S} {t : ByteArray} (h : txt s = t) (h2 : 2 ≤ t.size) : 1 ≤ s.1 ∧ s.1 ≤ 99 := by
  unfold txt at h
  split at h
  · rename_i hc
    simp [rowT] at hc
    exact hc.1
  · rw [← h] at h2
    exact absurd h2 (by decide)
/-- No row ahead of k hits. -/
def noHit (t : ByteArray) (k : Nat) : Prop := ∀ j, 1 ≤ j → j < k → txt ((j : Int), Cd.bt t (t.size - 1)) ≠ t
theorem hit_ok {t : ByteArray} {k : Nat} (h0 : 1 ≤ k) (h1 : k ≤ 99) (h2 : 2 ≤ t.size) (h : txt ((k : Int), Cd.bt t (t.size - 1)) = t) : seatT t = ((k : Int), Cd.bt t (t.size - 1)) := by
  unfold seatT
  rw [row_of h0 h1 h h2]
theorem miss_no {t : ByteArray} (h2 : 2 ≤ t.size) (h : noHit t 100) : txt (seatT t) ≠ t := fun e => by
  obtain ⟨r0, r1⟩ := txt_row e h2
  unfold seatT at r0 r1 e
  simp only at r0 r1
  have := h (rowP t (t.size - 1)).toNat (by omega) (by omega)
  rw [Int.toNat_of_nonneg (by omega)] at this
  exact this e
end Pl
set_option maxHeartbeats 1000000 in
set_option maxRecDepth 20000 in
theorem rread_core (t : ByteArray) (w : World) (h2 : 2 ≤ t.size) (h3 : t.size ≤ 3) (ok : Bool) (hok : ok = decide (Pl.txt (Pl.seatT t) = t)) (rs : Pl.S) (hrs : rs = if ok then Pl.seatT t else (0, 0)) :
    Calls Tryd.prog 12 #[.string t] w (Pl.ReadR rs ok w) := by
  have hgb := Cd.get_bt t
  have HHit : Hid (∀ k : Nat, 1 ≤ k → k ≤ 99 → Pl.txt ((k : Int), Cd.bt t (t.size - 1)) = t → ok = true ∧ rs = ((k : Int), Cd.bt t (t.size - 1))) := fun k a b h => by
    have e := Pl.hit_ok a b h2 h
    have h5 : ok = true := by rw [hok]; exact decide_eq_true (by rw [e]; exact h)
    exact ⟨h5, by rw [hrs, h5, if_pos rfl, e]⟩
  have HMis : Hid (Pl.noHit t 100 → ok = false ∧ rs = (0, 0)) := fun h => by
    have h5 : ok = false := by rw [hok]; exact decide_eq_false (Pl.miss_no h2 h)
    exact ⟨h5, by rw [hrs, h5]; rfl⟩
  have HST : Hid (∀ k, Pl.noHit t k → Pl.txt ((k : Int), Cd.bt t (t.size - 1)) ≠ t → Pl.noHit t (k + 1)) := fun k h hn j a b => by
    rcases Nat.lt_or_ge j k with hj | hj
    · exact h j a hj
    · rw [show j = k by omega]; exact hn
  obtain ⟨n, hn⟩ : ∃ n, t.size = n + 1 := ⟨t.size - 1, by omega⟩
  rw [hn, Nat.add_sub_cancel] at HHit HST
  have HT := Lib.hid (fun (k : Int) W => rtext_any (k, Cd.bt t n) W (Cd.bt_lo t n) (Cd.bt_hi t n))
  unfold Pl.sv at HT
  simp only at HT
  have hsz : (t.size : Int) - 1 = (n : Int) := by omega
  have hnt : n < t.size := by omega
  have hn3 : n ≤ 2 := by omega
  have hd1 : decide ((t.size : Int) < 2) = false := by simp; omega
  have hd2 : decide ((3 : Int) < (t.size : Int)) = false := by simp; omega
  clear hok hn h2 h3 hrs
  go_enter Tryd.func12, Tryd.ntmps12
  go_wp2_with (first
    | (refine Rw.wpList_alloc rfl 23 rfl [.int .i64 0, .int .u8 0] Pl.zSeat ?_; intro w0 K0 b0 z0; have HZ0 := Lib.hid z0; clear z0))
  have hz0 : w.heap.size < w0.heap.size := by have := HZ0.out; omega
  have HK0 := Lib.hid K0
  have HB0 := Lib.hid b0
  clear K0 b0
  go_loopw [4] (fun i wr => ∃ (k : Nat), 1 ≤ k ∧ k ≤ 100 ∧ i = .int .i64 k ∧ Hid (Pl.noHit t k) ∧ Hid (Below w0.heap.size w0 wr)) (fun i _ => 100 - (intOf i).toNat)
  case atStart => exact ⟨1, by omega, by omega, rfl, fun j a b => absurd b (by omega), Below.refl _ _⟩
  case round =>
    obtain ⟨k, hk1, hk2, rfl, HNH, HB⟩ := hrel
    have HKr := Lib.hid (HK0.out.below' HB.out)
    have hzr := HB.out.size
    by_cases hlt : k ≤ 99
    · have HTk := Lib.hid (HT.out k)
      have HHk := Lib.hid (HHit.out k hk1 hlt)
      have HSk := Lib.hid (HST.out k HNH.out)
      generalize Pl.txt ((k : Int), Cd.bt t n) = tx at *
      by_cases hx : tx = t
      · have hbe := Pl.str_eq hx
        obtain ⟨g1, g2⟩ := HHk.out hx
        have G1 := Lib.hid g1
        have G2 := Lib.hid g2
        clear hx g1 g2
        go_wp2_with (first
          | (refine Rw.wpList_alloc rfl 23 rfl [.int .i64 0, .int .u8 0] Pl.zSeat ?_; intro w2 K2 b2 z2; have HZ2 := Lib.hid z2; clear z2)
          | (refine Rw.wpList_store_whole rfl 23 _ _ rfl wr.heap.size rfl [.int .i64 k, .int .u8 (Cd.bt t n)] rfl _ _ K2 Pl.iSeat rfl (by intro v hv; simp at hv; rcases hv with rfl | rfl <;> rfl) ?_; intro w3 K3 f3; have b3 : Below wr.heap.size wr w3 := b2.trans (f3.below b2.size (fun k hk => Nat.le_of_eq hk.symm)); have e0 : w3.cell? ⟨wr.heap.size, 0, none⟩ = some (.int .i64 k) := (K3.cell 0).trans rfl; have e1 : w3.cell? ⟨wr.heap.size, 1, none⟩ = some (.int .u8 (Cd.bt t n)) := (K3.cell 1).trans rfl)
          | (go_at_call 13; refine (HTk.out _).mono ?_; rintro e w4 ⟨rfl, hb4⟩; have K4 := K3.below' hb4; have b34 : Below wr.heap.size wr w4 := b3.trans (hb4.mono b3.size); have KR := HKr.out.below' b34; have m0 : w4.cell? ⟨wr.heap.size, 0, none⟩ = some (.int .i64 k) := (K4.cell 0).trans rfl; have m1 : w4.cell? ⟨wr.heap.size, 1, none⟩ = some (.int .u8 (Cd.bt t n)) := (K4.cell 1).trans rfl)
          | (refine Rw.wpList_store_whole rfl 23 _ _ rfl w.heap.size rfl [.int .i64 k, .int .u8 (Cd.bt t n)] rfl _ _ KR Pl.iSeat rfl (by intro v hv; simp at hv; rcases hv with rfl | rfl <;> rfl) ?_; intro w5 K5 f5; have r0 : w5.cell? ⟨w.heap.size, 0, none⟩ = some (.int .i64 k) := (K5.cell 0).trans rfl; have r1 : w5.cell? ⟨w.heap.size, 1, none⟩ = some (.int .u8 (Cd.bt t n)) := (K5.cell 1).trans rfl))
        have hB5 : Below w.heap.size w w5 := HB0.out.trans (((HB.out.trans (b34.mono hzr)).mono (Nat.le_of_lt hz0)).trans (f5.below (by have := b34.size; omega) (fun k hk => Nat.le_of_eq hk.symm)))
        exact bodyPost_ret (v := .tuple #[.agg #[.int .i64 k, .int .u8 (Cd.bt t n)], .bool true]) (by simp [results, Tryd.results12, go_sem, r0, r1]) rfl ⟨by rw [G1.out, G2.out]; rfl, hB5⟩
      · have hbe := Pl.str_ne hx
        have G1 := Lib.hid (HSk.out hx)
        clear hx
        go_wp2_with (first
          | (refine Rw.wpList_alloc rfl 23 rfl [.int .i64 0, .int .u8 0] Pl.zSeat ?_; intro w2 K2 b2 z2; have HZ2 := Lib.hid z2; clear z2)
          | (refine Rw.wpList_store_whole rfl 23 _ _ rfl wr.heap.size rfl [.int .i64 k, .int .u8 (Cd.bt t n)] rfl _ _ K2 Pl.iSeat rfl (by intro v hv; simp at hv; rcases hv with rfl | rfl <;> rfl) ?_; intro w3 K3 f3; have b3 : Below wr.heap.size wr w3 := b2.trans (f3.below b2.size (fun k hk => Nat.le_of_eq hk.symm)); have e0 : w3.cell? ⟨wr.heap.size, 0, none⟩ = some (.int .i64 k) := (K3.cell 0).trans rfl; have e1 : w3.cell? ⟨wr.heap.size, 1, none⟩ = some (.int .u8 (Cd.bt t n)) := (K3.cell 1).trans rfl)
          | (go_at_call 13; refine (HTk.out _).mono ?_; rintro e w4 ⟨rfl, hb4⟩; have b34 : Below wr.heap.size wr w4 := b3.trans (hb4.mono b3.size); have B4 : Hid (Below w0.heap.size w0 w4) := HB.out.trans (b34.mono hzr)))
        go_roundw
        case rel => exact ⟨k + 1, by omega, by omega, by go_num, G1, B4⟩
        case measure => simp [intOf]; omega
    · have hk100 : k = 100 := by omega
      subst hk100
      obtain ⟨g1, g2⟩ := HMis.out HNH.out
      have G1 := Lib.hid g1
      have G2 := Lib.hid g2
      clear g1 g2 hlt
      go_wp2_with (first
        | (refine Rw.wpList_store_whole rfl 23 _ _ rfl w.heap.size rfl [.int .i64 0, .int .u8 0] rfl _ _ HKr.out Pl.iSeat rfl (by intro v hv; simp at hv; rcases hv with rfl | rfl <;> rfl) ?_; intro w5 K5 f5; have r0 : w5.cell? ⟨w.heap.size, 0, none⟩ = some (.int .i64 0) := (K5.cell 0).trans rfl; have r1 : w5.cell? ⟨w.heap.size, 1, none⟩ = some (.int .u8 0) := (K5.cell 1).trans rfl))
      have hB5 : Below w.heap.size w w5 := HB0.out.trans ((HB.out.mono (Nat.le_of_lt hz0)).trans (f5.below (by omega) (fun k hk => Nat.le_of_eq hk.symm)))
      exact bodyPost_ret (v := .tuple #[.agg #[.int .i64 0, .int .u8 0], .bool false]) (by simp [results, Tryd.results12, go_sem, r0, r1]) rfl ⟨by rw [G1.out, G2.out]; rfl, hB5⟩
theorem read_out (t : ByteArray) (w : World) (h : t.size < 2 ∨ 3 < t.size) (hs : t.size ≤ 9223372036854775807) : Calls Tryd.prog 11 #[.string t] w (Pl.ReadR (0, 0) false w) := by
  rcases h with h | h
  · have hd1 : decide ((t.size : Int) < 2) = true := by simp; omega
    go_enter Tryd.func11, Tryd.ntmps11
    go_wp2
    exact bodyPost_ret (v := .tuple #[.agg #[.int .i64 0, .int .u8 0], .bool false]) (by simp [results, Tryd.results11, go_sem]) rfl ⟨rfl, (Below.refl _ _).alloc (Nat.le_refl _) _⟩
  · have hd1 : decide ((t.size : Int) < 2) = false := by simp; omega
    have hd2 : decide ((3 : Int) < (t.size : Int)) = true := by simp; omega
    go_enter Tryd.func11, Tryd.ntmps11
    go_wp2
    exact bodyPost_ret (v := .tuple #[.agg #[.int .i64 0, .int .u8 0], .bool false]) (by simp [results, Tryd.results11, go_sem]) rfl ⟨rfl, (Below.refl _ _).alloc (Nat.le_refl _) _⟩
theorem rread_out (t : ByteArray) (w : World) (h : t.size < 2 ∨ 3 < t.size) (hs : t.size ≤ 9223372036854775807) : Calls Tryd.prog 12 #[.string t] w (Pl.ReadR (0, 0) false w) := by
  rcases h with h | h
  · have hd1 : decide ((t.size : Int) < 2) = true := by simp; omega
    go_enter Tryd.func12, Tryd.ntmps12
    go_wp2
    exact bodyPost_ret (v := .tuple #[.agg #[.int .i64 0, .int .u8 0], .bool false]) (by simp [results, Tryd.results12, go_sem]) rfl ⟨rfl, (Below.refl _ _).alloc (Nat.le_refl _) _⟩
  · have hd1 : decide ((t.size : Int) < 2) = false := by simp; omega
    have hd2 : decide ((3 : Int) < (t.size : Int)) = true := by simp; omega
    go_enter Tryd.func12, Tryd.ntmps12
    go_wp2
    exact bodyPost_ret (v := .tuple #[.agg #[.int .i64 0, .int .u8 0], .bool false]) (by simp [results, Tryd.results12, go_sem]) rfl ⟨rfl, (Below.refl _ _).alloc (Nat.le_refl _) _⟩
end Go.Proofs.YtonfkonjkgalhaaDoor
