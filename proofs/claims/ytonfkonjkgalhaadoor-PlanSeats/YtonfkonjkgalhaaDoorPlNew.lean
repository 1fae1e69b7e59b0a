/- Contract of New. -/
import Derived.Test.YtonfkonjkgalhaaDoorPlAdd
import Derived.Test.YtonfkonjkgalhaaDoorPlChe
import Derived.Carry
namespace Go.Proofs.YtonfkonjkgalhaaDoor
open Go.RowKit Go.WideMaps
set_option linter.unusedVariables false

namespace Pl
theorem right_parts {p : P} (h : right p = true) : rowsOk p = true ∧ lettersOk p.lt = true := by
  simp only [right, Bool.and_eq_true] at h
  exact ⟨h.1.1.1, h.1.1.2⟩
theorem rows_bd {p : P} (h : rowsOk p = true) : 1 ≤ p.fr ∧ p.fr ≤ p.la ∧ p.la ≤ 60 ∧ p.fr + (nrows p : Int) = p.la + 1 := by
  simp [rowsOk] at h
  unfold nrows
  omega
def NewR (r : R) (w : World) (e : Ending) (w' : World) : Prop := ∃ g, e = .returned (.tuple #[.pointer (some ⟨g, 0, none⟩), .int .i64 0]) ∧ MapAt w' w.heap.size g r.p (pls r.p) ∧ Below w.heap.size w w'
end Pl
set_option maxHeartbeats 1000000 in
set_option maxRecDepth 20000 in
theorem new_wrong (r : Pl.R) (B : Nat) (w : World) (hw : Pl.Wf r) (he : Pl.Ints w B r.eA r.p.ex) (hbl : Pl.Sts w B r.bA r.p.bl) (hB : B ≤ w.heap.size) (hr : Pl.right r.p = false) :
    Calls Tryd.prog 16 #[Pl.pv r] w fun e w' => e = .returned (.tuple #[.pointer none, .int .i64 4]) ∧ Below w.heap.size w w' := by
  have HC := Lib.hid (fun (W : World) (hb : Below w.heap.size w W) => check_any r B W hw (he.below hb hB) (hbl.below hb hB) (Nat.le_trans hB hb.size))
  have hc : Pl.code r.p = 4 := by unfold Pl.code; rw [hr]; rfl
  rw [hc] at HC
  have e0 : Pl.pv r = .agg (Pl.enc r).toArray := rfl
  rw [e0] at HC ⊢
  clear e0 hc hr he hbl hw
  go_enter Tryd.func16, Tryd.ntmps16
  go_wp2_with (first
    | (refine Rw.wpList_box rfl 32 _ rfl (Pl.enc r) rfl ?_; intro w1 K1 b1 z1; have HC1 := Lib.hid (HC.out w1 b1); clear z1)
    | (refine wpList_load_mid rfl 32 _ rfl w.heap.size 0 rfl (Pl.enc r) _ K1.range Pl.uP Pl.rP Pl.iP ?_)
    | (go_at_call 17; refine HC1.out.mono ?_; rintro e w2 ⟨rfl, hb2⟩; have hb02 := b1.trans (hb2.mono b1.size)))
  go_ret2
  exact ⟨rfl, hb02⟩
set_option maxHeartbeats 2000000 in
set_option maxRecDepth 20000 in
theorem new_right (r : Pl.R) (B : Nat) (w : World) (hw : Pl.Wf r) (he : Pl.Ints w B r.eA r.p.ex) (hbl : Pl.Sts w B r.bA r.p.bl) (hB : B ≤ w.heap.size) (hr : Pl.right r.p = true) :
    Calls Tryd.prog 16 #[Pl.pv r] w (Pl.NewR r w) := by
  have HC := Lib.hid (fun (W : World) (hb : Below w.heap.size w W) => check_any r B W hw (he.below hb hB) (hbl.below hb hB) (Nat.le_trans hB hb.size))
  have hc : Pl.code r.p = 0 := by unfold Pl.code; rw [hr]; rfl
  rw [hc] at HC
  obtain ⟨ho, hl⟩ := Pl.right_parts hr
  obtain ⟨r1, r2, r3, r4⟩ := Pl.rows_bd ho
  have HR4 := Lib.hid r4
  have HO := Lib.hid ho
  have HL := Lib.hid hl
  have HWF := Lib.hid hw
  have HE := Lib.hid he
  have HBL := Lib.hid hbl
  have hsz := hw.s
  have e0 : Pl.pv r = .agg (Pl.enc r).toArray := rfl
  have HAD := Lib.hid (fun (row : Int) (i base g : Nat) (l : List (Int × Nat)) (W : World) (hb : Below w.heap.size w W) (hi : i < r.p.lt.size) => add_any r row i B base g l W hw hi (he.below hb hB) (hbl.below hb hB) (Nat.le_trans hB hb.size))
  rw [e0] at HC HAD ⊢
  have hmm := @run_makeMap Tryd.prog
  have hgb := Cd.get_bt r.p.lt
  clear e0 hc hr he hbl hw r4 ho hl
  go_enter Tryd.func16, Tryd.ntmps16
  go_wp2_with (first
    | (refine Rw.wpList_box rfl 32 _ rfl (Pl.enc r) rfl ?_; intro w1 K1 b1 z1; have HC1 := Lib.hid (HC.out w1 b1); have HZ1 := Lib.hid z1; clear z1)
    | (refine wpList_load_mid rfl 32 _ rfl w.heap.size 0 rfl (Pl.enc r) _ K1.range Pl.uP Pl.rP Pl.iP ?_)
    | (go_at_call 17; refine HC1.out.mono ?_; rintro e w2 ⟨rfl, hb2⟩; have K2 := K1.below' hb2)
    | (refine Rw.wpList_box rfl 71 _ rfl [.slice none 0 0, .map (some w2.heap.size)] rfl ?_; intro w3 K3 b3 z3; have K23 : Rw.Blk w3 w.heap.size 32 (Pl.enc r) := (K2.below' ((Below.refl _ _).alloc (Nat.le_refl _) (.map #[] 0))).below' b3; have cp0 : w3.cell? ⟨w.heap.size, 0, none⟩ = some (.int .i64 r.p.fr) := (K23.cell 0).trans rfl))
  have hz1 : w.heap.size < w1.heap.size := by have := HZ1.out; omega
  have hbm : Below w2.heap.size w2 (w2.alloc (.map #[] 0)) := (Below.refl _ _).alloc (Nat.le_refl _) _
  have hb13 : Below w1.heap.size w1 w3 := (hb2.trans (hbm.mono hb2.size)).trans (b3.mono (Nat.le_trans hb2.size hbm.size))
  have h13 := hb13.size
  have HB13 := Lib.hid hb13
  have HB1 := Lib.hid b1
  have HMA : Hid (Pl.MapAt w3 w1.heap.size (w2.alloc (.map #[] 0)).heap.size r.p (Pl.upto r.p 0)) := by
    refine ⟨⟨none, 0, w2.heap.size, K3, Pl.OwnS.nil _ _, ?_, hb2.size⟩, Nat.le_trans hb2.size hbm.size⟩
    exact (Mp.MapL.made Tryd.prog 23 w2).kept (b3.block _ (by simp))
  have hg1 : (w2.alloc (.map #[] 0)).heap.size = w2.heap.size + 1 := by simp
  rw [hg1] at HMA
  clear hg1
  have HK23 := Lib.hid K23
  clear hmm hb2 hbm b3 z3 K1 K2 K3 K23 hb13 b1 HC1 HC cp0
  generalize w2.heap.size + 1 = g at *
  go_loopw [6] (fun i wr => ∃ k : Nat, k ≤ Pl.nrows r.p ∧ i = .int .i64 (r.p.fr + k) ∧ Hid (Pl.MapAt wr w1.heap.size g r.p (Pl.upto r.p k)) ∧ Hid (Below w1.heap.size w3 wr)) (fun i _ => (Pl.nrows r.p - (intOf i - r.p.fr)).toNat)
  case atStart => exact ⟨0, by omega, by simp, HMA, Below.refl _ _⟩
  case round =>
    obtain ⟨wr1, e1⟩ : ∃ x, x = wr := ⟨_, rfl⟩
    subst e1
    obtain ⟨k, hk, rfl, HM1, HBr⟩ := hrel
    have HKr : Hid (Rw.Blk wr1 w.heap.size 32 (Pl.enc r)) := HK23.out.kept (HBr.out.block _ (by omega))
    have q1 : wr1.cell? ⟨w.heap.size, 1, none⟩ = some (.int .i64 r.p.la) := (HKr.out.cell 1).trans rfl
    have q2 : wr1.cell? ⟨w.heap.size, 2, none⟩ = some (.string r.p.lt) := (HKr.out.cell 2).trans rfl
    have hr4 := HR4.out
    by_cases hlt : k < Pl.nrows r.p
    · have hle : r.p.fr + (k : Int) ≤ r.p.la := by omega
      have HMI : Hid (Pl.MapAt wr1 w1.heap.size g r.p (Pl.ahead r.p k 0)) := show Pl.MapAt _ _ _ _ _ by rw [Pl.ahead_zero]; exact HM1.out
      have HEND : Hid (Pl.ahead r.p k r.p.lt.size = Pl.upto r.p (k + 1)) := Pl.ahead_end r.p k
      have hk60 : k < 60 := by omega
      clear hr4
      go_wp2
      go_loopw [27] (fun i2 wr => ∃ i : Nat, i ≤ r.p.lt.size ∧ i2 = .int .i64 i ∧ Hid (Pl.MapAt wr w1.heap.size g r.p (Pl.ahead r.p k i)) ∧ Hid (Below w1.heap.size w3 wr)) (fun i2 _ => r.p.lt.size - (intOf i2).toNat)
      case atStart => exact ⟨0, by omega, rfl, HMI, HBr⟩
      case round =>
        obtain ⟨wr2, e2⟩ : ∃ x, x = wr := ⟨_, rfl⟩
        subst e2
        obtain ⟨i, hi, rfl, HM2, HBr2⟩ := hrel
        have HKr2 : Hid (Rw.Blk wr2 w.heap.size 32 (Pl.enc r)) := HK23.out.kept (HBr2.out.block _ (by omega))
        have p2 : wr2.cell? ⟨w.heap.size, 2, none⟩ = some (.string r.p.lt) := (HKr2.out.cell 2).trans rfl
        by_cases hi2 : i < r.p.lt.size
        · have b0 := Cd.bt_lo r.p.lt i
          have b9 := Cd.bt_hi r.p.lt i
          by_cases hd : Cd.bt r.p.lt i = 46
          · have hx : (Cd.bt r.p.lt i == 46) = true := by simp [hd]
            have hx2 : (Cd.bt r.p.lt i != 46) = false := by simp [hd]
            have HN : Hid (Pl.MapAt wr2 w1.heap.size g r.p (Pl.ahead r.p k (i + 1))) := show Pl.MapAt _ _ _ _ _ by rw [Pl.ahead_no r.p k i hd]; exact HM2.out
            clear hd
            go_wp2
            go_roundw
            case rel => exact ⟨i + 1, by omega, by go_num, HN, HBr2⟩
            case measure => simp [intOf]; omega
          · have hx : (Cd.bt r.p.lt i == 46) = false := by simp [hd]
            have hx2 : (Cd.bt r.p.lt i != 46) = true := by simp [hd]
            have HADi := Lib.hid (HAD.out (r.p.fr + k) i w1.heap.size g (Pl.ahead r.p k i) wr2 (HB1.out.trans ((HB13.out.trans (HBr2.out.mono (by omega))).mono (by omega))) hi2 (Nat.le_trans h13 HBr2.out.size) HM2.out (Pl.ahead_new HL.out hlt hi2 hd) ⟨by show _ ≤ r.p.fr + (k : Int); omega, by show r.p.fr + (k : Int) ≤ _; omega, b0, b9⟩ (by have := Pl.ahead_len HL.out HO.out hlt (Nat.le_of_lt hi2); omega))
            rw [← Pl.ahead_yes r.p k i hd] at HADi
            clear hd
            go_wp2_with (first
              | (refine wpList_load_mid rfl 32 _ rfl w.heap.size 0 rfl (Pl.enc r) _ HKr2.out.range Pl.uP Pl.rP Pl.iP ?_)
              | (go_at_call 40; refine HADi.out.mono ?_; rintro e w5 ⟨rfl, hm5, hb5⟩; have HM5 := Lib.hid hm5; have HB5 : Hid (Below w1.heap.size w3 w5) := HBr2.out.trans hb5; clear hm5 hb5))
            go_roundw
            case rel => exact ⟨i + 1, by omega, by go_num, HM5, HB5⟩
            case measure => simp [intOf]; omega
        · have hin : i = r.p.lt.size := by omega
          have HM3 : Hid (Pl.MapAt wr2 w1.heap.size g r.p (Pl.upto r.p (k + 1))) := show Pl.MapAt _ _ _ _ _ by rw [← HEND.out, ← hin]; exact HM2.out
          clear hin
          go_wp2
          go_roundw
          case rel => exact ⟨k + 1, by omega, by go_num, HM3, HBr2⟩
          case measure => simp [intOf]; omega
    · have hle : ¬ r.p.fr + (k : Int) ≤ r.p.la := by omega
      have hkn : k = Pl.nrows r.p := by omega
      clear hr4
      subst hkn
      go_wp2
      go_ret2
      exact ⟨g, rfl, HM1.out.low (by omega), HB1.out.trans ((HB13.out.trans (HBr.out.mono (by omega))).mono (by omega))⟩
end Go.Proofs.YtonfkonjkgalhaaDoor
