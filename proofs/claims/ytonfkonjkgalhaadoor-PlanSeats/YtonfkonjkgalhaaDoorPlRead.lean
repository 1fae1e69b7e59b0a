/- Contract of Read. -/
import Derived.Test.YtonfkonjkgalhaaDoorPlTxt
namespace Go.Proofs.YtonfkonjkgalhaaDoor
open Go.RowKit Go.WideMaps
set_option linter.unusedVariables false

namespace Pl
/-- What the first k bytes come to. -/
def rowP (t : ByteArray) : Nat → Int
  | 0 => 0
  | k + 1 => rowP t k * 10 + Cd.bt t k - 48
theorem rowP_bd (t : ByteArray) : ∀ k, k ≤ 2 → -1000 ≤ rowP t k ∧ rowP t k ≤ 3000
  | 0, _ => by simp [rowP]
  | 1, _ => by have := Cd.bt_lo t 0; have := Cd.bt_hi t 0; simp only [rowP]; omega
  | 2, _ => by have := Cd.bt_lo t 0; have := Cd.bt_hi t 0; have := Cd.bt_lo t 1; have := Cd.bt_hi t 1; simp only [rowP]; omega
def seatT (t : ByteArray) : S := (rowP t (t.size - 1), Cd.bt t (t.size - 1))
theorem str_ne {a b : ByteArray} (h : a ≠ b) : (a.toList == b.toList) = false := by
  rw [ByteArray.toList_eq, ByteArray.toList_eq]
  simp only [beq_eq_false_iff_ne]
  intro e
  apply h
  apply ByteArray.ext
  exact Array.toList_inj.1 e
theorem str_bne {a b : ByteArray} (h : a ≠ b) : (a.toList != b.toList) = true := by rw [bne, str_ne h]; rfl
theorem str_eq {a b : ByteArray} (h : a = b) : (a.toList == b.toList) = true := by subst h; exact beq_self_eq_true _
theorem str_bne' {a b : ByteArray} (h : a = b) : (a.toList != b.toList) = false := by rw [bne, str_eq h]; rfl
def ReadR (s : S) (ok : Bool) (w : World) (e : Ending) (w' : World) : Prop := e = .returned (.tuple #[sv s, .bool ok]) ∧ Below w.heap.size w w'
end Pl
set_option maxHeartbeats 1000000 in
set_option maxRecDepth 20000 in
theorem read_core (t : ByteArray) (w : World) (h2 : 2 ≤ t.size) (h3 : t.size ≤ 3) (ok : Bool) (hok : ok = decide (Pl.txt (Pl.seatT t) = t)) (rs : Pl.S) (hrs : rs = if ok then Pl.seatT t else (0, 0)) :
    Calls Tryd.prog 11 #[.string t] w (Pl.ReadR rs ok w) := by
  have hgb := Cd.get_bt t
  obtain ⟨n, hn⟩ : ∃ n, t.size = n + 1 := ⟨t.size - 1, by omega⟩
  have HST : Hid (Pl.seatT t = (Pl.rowP t n, Cd.bt t n)) := show _ = _ by unfold Pl.seatT; rw [hn]; rfl
  have HT := Lib.hid (fun W => text_any (Pl.rowP t n, Cd.bt t n) W (Cd.bt_lo t n) (Cd.bt_hi t n))
  have HBD := Lib.hid (Pl.rowP_bd t)
  have HRS : Hid (∀ k, Pl.rowP t (k + 1) = Pl.rowP t k * 10 + Cd.bt t k - 48) := fun _ => rfl
  have HR0 : Hid (Pl.rowP t 0 = 0) := show _ = _ by rfl
  have HLO := Lib.hid (Cd.bt_lo t)
  have HHI := Lib.hid (Cd.bt_hi t)
  have hsz : (t.size : Int) - 1 = (n : Int) := by omega
  have hnt : n < t.size := by omega
  have hn1 : 1 ≤ n := by omega
  have hn2 : n ≤ 2 := by omega
  have HOK := Lib.hid hok
  have HRR := Lib.hid hrs
  rw [HST.out] at HOK HRR
  generalize Pl.txt (Pl.rowP t n, Cd.bt t n) = tx at *
  unfold Pl.sv at HT
  simp only at HT
  have HN := Lib.hid hn
  have hd1 : decide ((t.size : Int) < 2) = false := by simp; omega
  have hd2 : decide ((3 : Int) < (t.size : Int)) = false := by simp; omega
  clear hok hn HST h2 h3 hrs
  go_enter Tryd.func11, Tryd.ntmps11
  go_wp2
  all_goals
    go_loop [5, 21] (fun r i => ∃ (k : Nat), k ≤ n ∧ i = .int .i64 k ∧ r = .int .i64 (Pl.rowP t k)) (fun _ i => n - (intOf i).toNat)
    case atStart => exact ⟨0, by omega, rfl, by rw [HR0.out]⟩
    case round =>
      obtain ⟨k, hk, rfl, rfl⟩ := hrel
      obtain ⟨b1, b2⟩ := HBD.out k (by omega)
      by_cases hlt : k < n
      · have e1 := HLO.out k
        have e2 := HHI.out k
        have hkt : k < t.size := by omega
        have HE := Lib.hid (HRS.out k)
        go_wp2
        go_round
        case rel => exact ⟨k + 1, by omega, by go_num, by rw [HE.out]⟩
        case measure => simp [intOf]; omega
      · have hkn : k = n := by omega
        subst hkn
        by_cases hx : tx = t
        · have hbq := Pl.str_bne' hx
          have hbe := Pl.str_eq hx
          have HO2 : Hid (ok = true) := show _ = _ by rw [HOK.out]; exact decide_eq_true hx
          clear hx HOK
          go_wp2_with (first | (go_at_call 10; refine (HT.out _).mono ?_; rintro e w1 ⟨rfl, hb1⟩; obtain ⟨hc, hf⟩ := Pl.bcell hb1; have K1 := Rw.Blk.below' (Rw.Blk.below' (Rw.Blk.made w 23 [.int .i64 0, .int .u8 0]) ((Below.refl _ _).alloc (Nat.le_refl _) _)) hb1))
          have KB := (K1.set1 0 (.int .i64 (Pl.rowP t k))).set1 1 (.int .u8 (Cd.bt t k))
          have r0 := (KB.cell 0).trans rfl
          have r1 := (KB.cell 1).trans rfl
          exact bodyPost_ret (v := .tuple #[.agg #[.int .i64 (Pl.rowP t k), .int .u8 (Cd.bt t k)], .bool true]) (by simp [results, Tryd.results11, go_sem, r0, r1]) rfl ⟨by rw [HRR.out, HO2.out]; rfl, ((((Below.refl _ _).alloc (Nat.le_refl _) _).alloc (by simp) _).trans (hb1.mono (by simp; omega))).setCell (by simp) _ |>.setCell (by simp) _⟩
        · have hbq := Pl.str_bne hx
          have hbe := Pl.str_ne hx
          have HO2 : Hid (ok = false) := show _ = _ by rw [HOK.out]; exact decide_eq_false hx
          clear hx HOK
          go_wp2_with (first | (go_at_call 10; refine (HT.out _).mono ?_; rintro e w1 ⟨rfl, hb1⟩; obtain ⟨hc, hf⟩ := Pl.bcell hb1; have K1 := Rw.Blk.below' (Rw.Blk.below' (Rw.Blk.made w 23 [.int .i64 0, .int .u8 0]) ((Below.refl _ _).alloc (Nat.le_refl _) _)) hb1))
          have KB := (K1.set1 0 (.int .i64 0)).set1 1 (.int .u8 0)
          have r0 := (KB.cell 0).trans rfl
          have r1 := (KB.cell 1).trans rfl
          exact bodyPost_ret (v := .tuple #[.agg #[.int .i64 0, .int .u8 0], .bool false]) (by simp [results, Tryd.results11, go_sem, r0, r1]) rfl ⟨by rw [HRR.out, HO2.out]; rfl, ((((Below.refl _ _).alloc (Nat.le_refl _) _).alloc (by simp) _).trans (hb1.mono (by simp; omega))).setCell (by simp) _ |>.setCell (by simp) _⟩
end Go.Proofs.YtonfkonjkgalhaaDoor
