/- The document's Find. -/
import Derived.Test.YtmcekicaigbccaaGreatFlROn
import Derived.Test.YtmcekicaigbccaaGreatFlBs
import Derived.Laws.ResultCell
namespace Go.Proofs.YtmcekicaigbccaaGreat
open Go.RowKit
set_option linter.unusedVariables false

namespace Fl
/-- Has a flight this key? -/
def isK (f : F) (car : ByteArray) (num : Int) : Bool := decide (f.car = car) && decide (f.num = num)
/-- What Find answers of some flights. -/
def FindIs (w : World) (rs : List R) (car : ByteArray) (num : Int) (e : Ending) (w' : World) : Prop :=
  ((∃ (j : Nat) (hj : j < rs.length), isK rs[j].f car num = true ∧ (∀ i, i < j → ∀ hi : i < rs.length, isK rs[i].f car num = false) ∧ e = .returned (.tuple #[fv rs[j], .bool true])) ∨
   ((∀ r ∈ rs, isK r.f car num = false) ∧ e = .returned (.tuple #[fv r0, .bool false]))) ∧ Below w.heap.size w w'
theorem enc_cell {w : World} {b o : Nat} {r : R} (h : w.rangeAt b o (enc r)) : w.cell? ⟨b, o, none⟩ = some (.string r.f.car) ∧ w.cell? ⟨b, o + 1, none⟩ = some (.int .i64 r.f.num) := ⟨h 0 _ rfl, h 1 _ rfl⟩
theorem isK_no {f : F} {car : ByteArray} {num : Int} (h : isK f car num = false) : (f.car ≠ car) ∨ (f.car = car ∧ f.num ≠ num) := by
  unfold isK at h
  by_cases h1 : f.car = car
  · right
    refine ⟨h1, fun h2 => ?_⟩
    rw [decide_eq_true h1, decide_eq_true h2] at h
    cases h
  · exact .inl h1
theorem isK_yes {f : F} {car : ByteArray} {num : Int} (h : isK f car num = true) : f.car = car ∧ f.num = num := by
  simpa [isK] using h
end Fl
set_option maxHeartbeats 1000000 in
theorem rfind_any (A : Option Addr) (rs : List Fl.R) (cap B : Nat) (car : ByteArray) (num : Int) (w : World) (h : Fl.Fls w B A rs) (hB : B ≤ w.heap.size) (hl : rs.length ≤ 1000000) :
    Calls Tryz.prog 46 #[.slice A rs.length cap, .agg #[.string car, .int .i64 num]] w (Fl.FindIs w rs car num) := by
  have HF := Lib.hid h
  clear h
  obtain ⟨w1, ew1⟩ : ∃ x, x = w.alloc (.cells #[.string car, .int .i64 num] 32) := ⟨_, rfl⟩
  have hb1 : Below w.heap.size w w1 := by rw [ew1]; exact (Below.refl _ _).alloc (Nat.le_refl _) _
  have hz1 : w1.heap.size = w.heap.size + 1 := by rw [ew1]; simp
  have K1 : Rw.Blk w1 w.heap.size 32 [.string car, .int .i64 num] := by rw [ew1]; exact heap_alloc_new w _
  go_enter Tryz.func46, Tryz.ntmps46
  go_wp2_with (first
    | (refine Rw.wpList_alloc rfl 62 rfl (Fl.enc Fl.r0) Fl.zF ?_; intro w2 K2 hb2 hz2))
  rw [← ew1] at K2 hb2 hz2
  rw [hz1] at K2 hz2
  have hz3 : w.heap.size + 1 < w2.heap.size := by omega
  clear hz1 hz2
  have HK1 := Lib.hid (K1.below' hb2)
  have HK2 := Lib.hid K2
  have HB2 := Lib.hid (hb1.trans (hb2.mono hb1.size))
  clear K1 K2 hb1 hb2 ew1
  go_loopw [6] (fun i wr => ∃ k : Nat, k ≤ rs.length ∧ i = .int .i64 k ∧ Hid (∀ i, i < k → ∀ hi : i < rs.length, Fl.isK rs[i].f car num = false) ∧ Below w2.heap.size w2 wr) (fun i _ => rs.length - (intOf i).toNat)
  case atStart => exact ⟨0, by omega, rfl, (fun j hj => absurd hj (by omega)), Below.refl _ _⟩
  case round =>
    obtain ⟨wx, ewx⟩ : ∃ x, x = wr := ⟨_, rfl⟩
    subst ewx
    obtain ⟨k, hk, rfl, HNo, hbr⟩ := hrel
    by_cases hlt : k < rs.length
    · obtain ⟨b, off, hA, hbB, hrow⟩ := HF.out.row (by omega)
      subst hA
      have hw2 := HB2.out.size
      have HR : Hid (wx.rangeAt b (off + k * 9) (Fl.enc rs[k])) := fun j v hv => (hbr.cell (p := ⟨b, _, none⟩) (show b < w2.heap.size by omega)).trans ((HB2.out.cell (p := ⟨b, _, none⟩) (show b < w.heap.size by omega)).trans (hrow k hlt j v hv))
      have HKx := HK1.out.below' hbr
      have HKr := Lib.hid (HK2.out.below' hbr)
      have q0 : ∀ q, (wx.drewN q).cell? ⟨w.heap.size, 0, none⟩ = some (.string car) := fun q => (HKx.cell 0).trans rfl
      have q1 : ∀ q, (wx.drewN q).cell? ⟨w.heap.size, 1, none⟩ = some (.int .i64 num) := fun q => (HKx.cell 1).trans rfl
      have c0 : ∀ q, (wx.drewN q).cell? ⟨b, off + k * 9, none⟩ = some (.string rs[k].f.car) := fun q => (Fl.enc_cell HR.out).1
      have c1 : ∀ q, (wx.drewN q).cell? ⟨b, off + k * 9 + 1, none⟩ = some (.int .i64 rs[k].f.num) := fun q => (Fl.enc_cell HR.out).2
      have HST : Hid (Fl.isK rs[k].f car num = false → ∀ i, i < k + 1 → ∀ hi : i < rs.length, Fl.isK rs[i].f car num = false) := fun e i hi hi2 => by
        rcases Nat.lt_or_ge i k with h | h
        · exact HNo.out i h hi2
        · have : i = k := by omega
          subst this; exact e
      have HYE : Hid (Fl.isK rs[k].f car num = true → ∀ w', Below w.heap.size w w' → Fl.FindIs w rs car num (.returned (.tuple #[Fl.fv rs[k], .bool true])) w') := fun e w' hb => ⟨.inl ⟨k, hlt, e, HNo.out, rfl⟩, hb⟩
      have hbq := Lib.hid (HB2.out.trans (hbr.mono HB2.out.size))
      generalize hr : rs[k] = r at *
      clear hr hrow HKx
      cases hK : Fl.isK r.f car num with
      | false =>
        have HN2 := Lib.hid (HST.out hK)
        rcases Fl.isK_no hK with h1 | ⟨h1, h2⟩
        · have s1 := Fl.str_ne h1
          clear hK h1
          go_wp2
          go_quiet (fail)
          go_wp2
          go_roundw
          case rel => exact ⟨k + 1, by omega, by go_num, HN2, Fl.below_drewN hbr _⟩
          case measure => simp [intOf]; omega
        · have s1 := Fl.str_eq h1
          have s2 : (r.f.num == num) = false := by simp [h2]
          clear hK h1 h2
          go_wp2
          go_quiet (fail)
          go_wp2
          go_roundw
          case rel => exact ⟨k + 1, by omega, by go_num, HN2, Fl.below_drewN hbr _⟩
          case measure => simp [intOf]; omega
      | true =>
        obtain ⟨h1, h2⟩ := Fl.isK_yes hK
        have HN2 := Lib.hid (HYE.out hK)
        have s1 := Fl.str_eq h1
        have s2 : (r.f.num == num) = true := by simp [h2]
        clear hK h1 h2
        go_wp2
        go_quiet (fail)
        obtain ⟨wy, ewy⟩ : ∃ x, x = wx.drewN nq := ⟨_, rfl⟩
        have hby : Below wx.heap.size wx wy := by rw [ewy]; exact Fl.below_drewN (Below.refl _ _) _
        have HRy : Hid (wy.rangeAt b (off + k * 9) (Fl.enc r)) := by rw [ewy]; exact HR.out
        have HKy : Hid (Rw.Blk wy (w.heap.size + 1) 62 (Fl.enc Fl.r0)) := by rw [ewy]; exact HKr.out
        rw [← ewy]
        clear ewy c0 c1 q0 q1
        go_wp2_with (first
          | (refine wpList_load_mid rfl 62 _ rfl b (off + k * 9) rfl (Fl.enc r) _ HRy.out Fl.uF Fl.rF Fl.iF ?_)
          | (refine Rw.wpList_store_whole rfl 62 _ _ rfl (w.heap.size + 1) rfl (Fl.enc r) rfl _ _ HKy.out Fl.iF rfl (Fl.enc_one _) ?_; intro w5 K5 f5))
        have hc5 := K5.cell
        have hb5 : Below w.heap.size w w5 := (hbq.out.trans (hby.mono hbq.out.size)).trans (f5.below (B := w.heap.size) (Nat.le_trans hbq.out.size hby.size) (fun k hk => by have : k = w.heap.size + 1 := hk; omega))
        refine bodyPost_ret (v := .tuple #[Fl.fv r, .bool true]) ?_ rfl (HN2.out _ hb5)
        simp [results, Tryz.results46, go_sem, hc5, Fl.enc, Fl.fv]
    · have HAL : Hid (∀ r ∈ rs, Fl.isK r.f car num = false) := fun r hr => by
        obtain ⟨j, hj, rfl⟩ := List.getElem_of_mem hr
        exact HNo.out j (by omega) hj
      have HKr := Lib.hid (HK2.out.below' hbr)
      have hbq := Lib.hid (HB2.out.trans (hbr.mono HB2.out.size))
      go_wp2_with (first
          | (refine Rw.wpList_store_whole rfl 62 _ _ rfl (w.heap.size + 1) rfl (Fl.enc Fl.r0) rfl _ _ HKr.out Fl.iF rfl (Fl.enc_one _) ?_; intro w5 K5 f5))
      have hc5 := K5.cell
      have hb5 : Below w.heap.size w w5 := hbq.out.trans (f5.below (B := w.heap.size) hbq.out.size (fun k hk => by have : k = w.heap.size + 1 := hk; omega))
      refine bodyPost_ret (v := .tuple #[Fl.fv Fl.r0, .bool false]) ?_ rfl ⟨.inr ⟨HAL.out, rfl⟩, hb5⟩
      simp [results, Tryz.results46, go_sem, hc5, Fl.enc, Fl.fv]
end Go.Proofs.YtmcekicaigbccaaGreat
