/- Contract of the document's Places. -/
import Derived.Test.YtonfkonjkgalhaaDoorPlLet
namespace Go.Proofs.YtonfkonjkgalhaaDoor
open Go.RowKit Go.WideMaps
set_option linter.unusedVariables false

namespace Pl
/-- The places of the first k rows. -/
def rws (p : P) (k : Nat) : List S := (List.range k).flatMap fun (j : Nat) => (lets p).map fun c => (p.fr + (j : Int), c)
def sofar (p : P) (l : ByteArray) (k i : Nat) : List S := rws p k ++ ((Cd.bs l).take i).map fun c => (p.fr + (k : Int), c)
theorem rws_succ (p : P) (k : Nat) : rws p (k + 1) = rws p k ++ (lets p).map fun c => (p.fr + (k : Int), c) := by
  unfold rws
  rw [List.range_succ, List.flatMap_append]
  simp
theorem rws_all (p : P) : rws p (nrows p) = all p := (all_eq p).symm
theorem rws_len (p : P) (k : Nat) : (rws p k).length = k * (lets p).length := by
  induction k with
  | zero => simp [rws]
  | succ k ih => rw [rws_succ, List.length_append, ih, List.length_map, Nat.succ_mul]
theorem sofar_zero (p : P) (l : ByteArray) (k : Nat) : sofar p l k 0 = rws p k := by simp [sofar]
theorem sofar_succ (p : P) (l : ByteArray) (k i : Nat) (h : i < l.size) : sofar p l k (i + 1) = sofar p l k i ++ [(p.fr + (k : Int), Cd.bt l i)] := by
  unfold sofar
  rw [Cd.take_succ l i h, List.map_append, List.append_assoc]
  rfl
theorem sofar_end (p : P) (l : ByteArray) (k : Nat) (h : Cd.bs l = lets p) : sofar p l k l.size = rws p (k + 1) := by
  unfold sofar
  rw [Cd.take_all, h, rws_succ]
theorem sofar_len (p : P) (l : ByteArray) (k i : Nat) (hl : (lets p).length ≤ 10) (hk : k < 60) (hi : i ≤ 10) : (sofar p l k i).length ≤ 1000 := by
  unfold sofar
  rw [List.length_append, List.length_map, rws_len]
  have h1 : k * (lets p).length ≤ 60 * 10 := Nat.mul_le_mul (by omega) hl
  have h2 : ((Cd.bs l).take i).length ≤ i := by rw [List.length_take]; exact Nat.min_le_left _ _
  omega
end Pl
set_option maxHeartbeats 4000000 in
set_option maxRecDepth 20000 in
theorem rplaces_any (r : Pl.R) (w : World) (hs : r.p.lt.size ≤ 9223372036854775807) (ho : Pl.rowsOk r.p = true) (hl : Pl.lettersOk r.p.lt = true) :
    Calls Tryd.prog 22 #[Pl.pv r] w (Pl.SeatsR (Pl.all r.p) w) := by
  obtain ⟨r1, r2, r3, r4⟩ := Pl.rows_bd ho
  have hr60 : Pl.nrows r.p ≤ 60 := by omega
  have HLT := Lib.hid (fun W => rletters_any r.p.lt W hs)
  rw [hl] at HLT
  obtain ⟨l1, l2, l3⟩ := Pl.lets_ok hl
  have HL3 := Lib.hid l3
  have HAL := Lib.hid (Pl.rws_all r.p)
  have HR4 := Lib.hid r4
  have e0 : Pl.pv r = .agg (Pl.enc r).toArray := rfl
  rw [e0]
  clear e0 l1 l2 l3 ho hl r4
  go_enter Tryd.func22, Tryd.ntmps22
  go_wp2_with (first
    | (refine Rw.wpList_box rfl 32 _ rfl (Pl.enc r) rfl ?_; intro w1 K1 b1 z1; have HB1 := Lib.hid b1; have HK1 := Lib.hid K1; have q2 : w1.cell? ⟨w.heap.size, 2, none⟩ = some (.string r.p.lt) := (HK1.out.cell 2).trans rfl; clear z1 K1 b1)
    | (go_at_call 39; refine (HLT.out _).mono ?_; rintro e w2 ⟨l, rfl, hbl, hb2⟩; have HBL := Lib.hid (hbl rfl); have HB2 := Lib.hid (HB1.out.trans (hb2.mono HB1.out.size)); have HK2 := Lib.hid (HK1.out.below' hb2); have q0 : w2.cell? ⟨w.heap.size, 0, none⟩ = some (.int .i64 r.p.fr) := (HK2.out.cell 0).trans rfl; clear hb2 hbl))
  clear q0 q2 HLT
  have HLL : Hid (Cd.bs l = Pl.lets r.p) := HBL.out
  have hls : l.size ≤ 10 := by have h1 := HL3.out; rw [← HLL.out, Cd.length_bs] at h1; exact h1
  have hz2 := HK2.out.lt
  have hgl := Cd.get_bt l
  have h02 : w.heap.size ≤ w2.heap.size := by omega
  go_loopw [5, 6] (fun lv i wr => ∃ (k : Nat) (C : Option Addr) (c : Nat), k ≤ Pl.nrows r.p ∧ i = .int .i64 (r.p.fr + k) ∧ lv = .slice C (Pl.rws r.p k).length c ∧ Hid (Pl.OwnS wr w2.heap.size (.slice C (Pl.rws r.p k).length c) (Pl.rws r.p k)) ∧ Hid (Below w2.heap.size w2 wr)) (fun _ i _ => (Pl.nrows r.p - (intOf i - r.p.fr)).toNat)
  case atStart => exact ⟨0, none, 0, by omega, by simp, rfl, Pl.OwnS.nil _ _, Below.refl _ _⟩
  case round =>
    obtain ⟨wa, ea⟩ : ∃ x, x = wr := ⟨_, rfl⟩
    subst ea
    obtain ⟨k, C, c, hk, rfl, rfl, HOa, HBa⟩ := hrel
    have HKa : Hid (Rw.Blk wa w.heap.size 32 (Pl.enc r)) := HK2.out.kept (HBa.out.block _ hz2)
    have q1 : wa.cell? ⟨w.heap.size, 1, none⟩ = some (.int .i64 r.p.la) := (HKa.out.cell 1).trans rfl
    have hr4 := HR4.out
    by_cases hlt : k < Pl.nrows r.p
    · have hle : r.p.fr + (k : Int) ≤ r.p.la := by omega
      have HSL : Hid (∀ i, i ≤ l.size → (Pl.sofar r.p l k i).length ≤ 1000) := fun i hi => Pl.sofar_len _ _ _ _ HL3.out (by omega) (by omega)
      have HSS : Hid (∀ i, i < l.size → Pl.sofar r.p l k (i + 1) = Pl.sofar r.p l k i ++ [(r.p.fr + (k : Int), Cd.bt l i)]) := fun i hi => Pl.sofar_succ _ _ _ _ hi
      have HSE : Hid (Pl.sofar r.p l k l.size = Pl.rws r.p (k + 1)) := Pl.sofar_end _ _ _ HLL.out
      have HS0 : Hid (Pl.rws r.p k = Pl.sofar r.p l k 0) := (Pl.sofar_zero _ _ _).symm
      have hk60 : k < 60 := by omega
      clear hr4
      rw [HS0.out] at HOa ⊢
      go_wp2
      go_loopw [5, 7] (fun lv i wr => ∃ (i2 : Nat) (ls : List Pl.S) (C : Option Addr) (c : Nat), i2 ≤ l.size ∧ i = .int .i64 i2 ∧ lv = .slice C ls.length c ∧ Hid (ls = Pl.sofar r.p l k i2) ∧ Hid (Pl.OwnS wr w2.heap.size (.slice C ls.length c) ls) ∧ Hid (Below w2.heap.size w2 wr)) (fun _ i _ => l.size - (intOf i).toNat)
      case atStart => exact ⟨0, _, C, c, by omega, rfl, rfl, show _ = _ by rfl, HOa, HBa⟩
      case round =>
        obtain ⟨wb, eb⟩ : ∃ x, x = wr := ⟨_, rfl⟩
        subst eb
        obtain ⟨i, ls, D, d, hi, rfl, rfl, HLS, HOb, HBb⟩ := hrel
        have hzb := HBb.out.size
        by_cases hlt2 : i < l.size
        · have HL2 : Hid (ls ++ [(r.p.fr + (k : Int), Cd.bt l i)] = Pl.sofar r.p l k (i + 1)) := show _ = _ by rw [HSS.out i hlt2, HLS.out]
          have hll : ls.length < 100000 := by have := HSL.out i hi; rw [← HLS.out] at this; omega
          have ba : Below wb.heap.size wb (wb.alloc (.cells #[.int .i64 (r.p.fr + (k : Int)), .int .u8 (Cd.bt l i)] 23)) := (Below.refl _ _).alloc (Nat.le_refl _) _
          have HLa := Lib.hid (HOb.out.below ba)
          have hba := Nat.le_trans hzb ba.size
          have HBc := Lib.hid (HBb.out.trans (ba.mono hzb))
          have HSc := Lib.hid (Pl.Sc.new (r.p.fr + (k : Int), Cd.bt l i) wb)
          clear ba
          go_wp2_with (first
            | (refine Rw.wpList_appendS rfl (.tmp 28) (.tmp 34) rfl w2.heap.size (.slice D ls.length d) ls (r.p.fr + (k : Int), Cd.bt l i) HLa.out rfl wb.heap.size rfl HSc.out hll hba (ls.length + 1) rfl ?_; intro A8 c8 w8 h81 h82 h83; have HO8 := h81; have HB8 := Lib.hid (HBc.out.trans h82.out); clear h81 h82 h83))
          go_roundw
          case rel => exact ⟨i + 1, _, A8, c8, by omega, by go_num, by simp, HL2, by simpa using HO8, HB8⟩
          case measure => simp [intOf]; omega
        · have HL2 : Hid (ls = Pl.rws r.p (k + 1)) := show _ = _ by rw [HLS.out, ← HSE.out]; congr 1; omega
          go_wp2
          go_roundw
          case rel => exact ⟨k + 1, D, d, by omega, by go_num, by rw [HL2.out], by rw [← HL2.out]; exact HOb, HBb⟩
          case measure => simp [intOf]; omega
    · have hle : ¬ r.p.fr + (k : Int) ≤ r.p.la := by omega
      have hkn : k = Pl.nrows r.p := by omega
      clear hr4
      subst hkn
      rw [HAL.out] at HOa ⊢
      go_wp2
      go_ret
      exact ⟨C, c, rfl, HOa.out.low h02, HB2.out.trans (HBa.out.mono h02)⟩
end Go.Proofs.YtonfkonjkgalhaaDoor
