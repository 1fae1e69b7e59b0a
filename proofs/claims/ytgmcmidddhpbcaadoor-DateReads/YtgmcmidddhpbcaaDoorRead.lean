/- Reading a day: contract of Read. -/
import Derived.Test.YtgmcmidddhpbcaaDoorRrclk
namespace Go.Proofs.YtgmcmidddhpbcaaDoor
open Go.RowKit
set_option linter.unusedVariables false

theorem Dt.Tab.cells {w : World} (h : Dt.Tab w) : w.cell? ⟨0, 0, none⟩ = some (.int .u8 31) ∧ w.cell? ⟨0, 1, none⟩ = some (.int .u8 29) ∧ w.cell? ⟨0, 2, none⟩ = some (.int .u8 31) ∧ w.cell? ⟨0, 3, none⟩ = some (.int .u8 30) ∧
    w.cell? ⟨0, 4, none⟩ = some (.int .u8 31) ∧ w.cell? ⟨0, 5, none⟩ = some (.int .u8 30) ∧ w.cell? ⟨0, 6, none⟩ = some (.int .u8 31) ∧ w.cell? ⟨0, 7, none⟩ = some (.int .u8 31) ∧
    w.cell? ⟨0, 8, none⟩ = some (.int .u8 30) ∧ w.cell? ⟨0, 9, none⟩ = some (.int .u8 31) ∧ w.cell? ⟨0, 10, none⟩ = some (.int .u8 30) ∧ w.cell? ⟨0, 11, none⟩ = some (.int .u8 31) :=
  ⟨h.2 0 (by decide), h.2 1 (by decide), h.2 2 (by decide), h.2 3 (by decide), h.2 4 (by decide), h.2 5 (by decide), h.2 6 (by decide), h.2 7 (by decide), h.2 8 (by decide), h.2 9 (by decide), h.2 10 (by decide), h.2 11 (by decide)⟩

theorem index_tab (m : Nat) (hm : m < 12) (w : World) : (Instr.index 41 (.agg #[.int .u8 31, .int .u8 29, .int .u8 31, .int .u8 30, .int .u8 31, .int .u8 30, .int .u8 31, .int .u8 31, .int .u8 30, .int .u8 31, .int .u8 30, .int .u8 31]) (.int .i64 (m : Int))).run Tryd.prog w =
    .ok (.int .u8 (Dt.ln m : Int)) w := by
  rcases (show m = 0 ∨ m = 1 ∨ m = 2 ∨ m = 3 ∨ m = 4 ∨ m = 5 ∨ m = 6 ∨ m = 7 ∨ m = 8 ∨ m = 9 ∨ m = 10 ∨ m = 11 by omega) with rfl | rfl | rfl | rfl | rfl | rfl | rfl | rfl | rfl | rfl | rfl | rfl
  all_goals simp [Instr.index, run_underlying Tryd.underlying41, asIntOf, go_sem, Dt.ln]
theorem read_size (s : ByteArray) (w : World) (hs : s.size ≤ maxLen) (h : s.size ≠ 5) : Calls Tryd.prog 15 #[.string s] w fun e w' => e = .returned (.tuple #[.int .i64 0, .bool false]) ∧ Below w.heap.size w w' := by
  have hi : ((s.size : Int) != 5) = true := by simp; omega
  unfold maxLen at hs
  go_enter Tryd.func15, Tryd.ntmps15
  go_wp2
  go_ret2
  exact ⟨rfl, Below.refl _ _⟩
theorem read_bad (s p : ByteArray) (w : World) (hs : s.size = 5) (h1 : s.extract 0 2 = p) (a : Int) (x : Bool)
    (HP : Hid (∀ t w, t = p → Calls Tryd.prog 28 #[.string t] w fun e w' => e = .returned (.tuple #[.int .i64 a, .bool x]) ∧ Below w.heap.size w w'))
    (h : x = false ∨ (x = true ∧ a = 0)) :
    Calls Tryd.prog 15 #[.string s] w fun e w' => e = .returned (.tuple #[.int .i64 0, .bool false]) ∧ Below w.heap.size w w' := by
  rcases h with rfl | ⟨rfl, rfl⟩
  all_goals go_enter Tryd.func15, Tryd.ntmps15
  all_goals go_wp2_with (go_at_call 28; refine (HP.out _ _ (by with_reducible rfl)).mono ?_; rintro e w1 ⟨rfl, hb1⟩)
  all_goals go_ret2
  all_goals exact ⟨rfl, hb1⟩
theorem read_core (s p q : ByteArray) (w : World) (hw : Dt.Tab w) (hs : s.size = 5) (h1 : s.extract 0 2 = p) (h2 : s.extract 2 5 = q) (a : Nat) (ha : 1 ≤ a) (ha' : a < 100)
    (HP : Hid (∀ t w, t = p → Calls Tryd.prog 28 #[.string t] w fun e w' => e = .returned (.tuple #[.int .i64 (a : Int), .bool true]) ∧ Below w.heap.size w w')) (r : Int) (o : Bool)
    (HY : Hid (∀ m < 12, q = Dt.nm m → a ≤ Dt.ln m → ((Dt.fst m + a - 1 : Nat) : Int) = r ∧ true = o))
    (HN : Hid ((∀ m < 12, q = Dt.nm m → ¬ a ≤ Dt.ln m) → 0 = r ∧ false = o)) :
    Calls Tryd.prog 15 #[.string s] w fun e w' => e = .returned (.tuple #[.int .i64 r, .bool o]) ∧ Below w.heap.size w w' := by
  have HW := Lib.hid hw
  clear hw
  have hz : ((a : Int) == 0) = false := by simp; omega
  go_enter Tryd.func15, Tryd.ntmps15
  go_wp2_with (go_at_call 28; refine (HP.out _ _ (by with_reducible rfl)).mono ?_; rintro e w1 ⟨rfl, hb1⟩; obtain ⟨c0, c1, c2, c3, c4, c5, c6, c7, c8, c9, c10, c11⟩ := (HW.out.below hb1).cells)
  clear c0 c1 c2 c3 c4 c5 c6 c7 c8 c9 c10 c11 HP
  go_loopw [6, 25] (fun f i wr => ∃ m x : Nat, m ≤ 12 ∧ x ≤ 366 ∧ f = .int .i64 (x : Int) ∧ i = .int .i64 m ∧ Hid (x = Dt.fst m) ∧ Hid (∀ j < m, q = Dt.nm j → ¬ a ≤ Dt.ln j) ∧ Below w.heap.size w wr) (fun _ i _ => 12 - (intOf i).toNat)
  case atStart => exact ⟨0, 0, by omega, by omega, rfl, rfl, show _ = _ by simp [Dt.fst], fun h hh => by omega, hb1⟩
  case round =>
    obtain ⟨m, x, hm, hx, rfl, rfl, HX, HK, hb⟩ := hrel
    by_cases hlt : m < 12
    · have hidx := index_tab m hlt wr
      have h31 := (Dt.ln_le m hlt).1
      have HS : Hid (Dt.fst (m + 1) = Dt.fst m + Dt.ln m) := Dt.fst_succ m
      have HY2 := Lib.hid (HY.out m hlt)
      have HF : Hid (Dt.fst (m + 1) ≤ 366) := Dt.fst_le (m + 1) (by omega)
      have HK2 : Hid ((q = Dt.nm m → ¬ a ≤ Dt.ln m) → ∀ j < m + 1, q = Dt.nm j → ¬ a ≤ Dt.ln j) := fun h0 j hj e => by
        rcases Nat.lt_or_ge j m with h' | h'
        · exact HK.out j h' e
        · obtain rfl : j = m := by omega
          exact h0 e
      obtain ⟨L, hL⟩ : ∃ L, Dt.ln m = L := ⟨_, rfl⟩
      rw [hL] at hidx h31 HS HY2 HK2
      clear hL
      by_cases hq : q = Dt.nm m
      · have e1 := Dt.str_eq hq
        by_cases hal : a ≤ L
        · obtain ⟨r1, r2⟩ := HY2.out hq hal
          rw [← HX.out] at r1
          have H1 := Lib.hid r1
          have H2 := Lib.hid r2
          clear r1 r2 hq HK2
          go_wp2
          go_quiet ((go_at_call 24; refine Calls.quiet_of_same ((monthName_any m _ hlt).mono fun _ _ h => ⟨h.1, h.2.symm⟩)))
          go_wp2
          go_ret2
          exact ⟨ret_tuple (val_int (Eq.trans (by omega) H1.out)) (congrArg Value.bool H2.out), hb.trans ((below_drewN _ _).mono hb.size)⟩
        · have HK3 := Lib.hid (HK2.out fun _ => hal)
          clear hq HK2
          go_wp2
          go_quiet ((go_at_call 24; refine Calls.quiet_of_same ((monthName_any m _ hlt).mono fun _ _ h => ⟨h.1, h.2.symm⟩)))
          go_wp2
          go_roundw
          case rel => exact ⟨m + 1, x + L, by omega, by have := HS.out; have := HX.out; have := HF.out; omega, by go_num, by go_num, show _ = _ by rw [HS.out, HX.out], HK3, hb.trans ((below_drewN _ _).mono hb.size)⟩
          case measure => simp [intOf]; omega
      · have e1 := Dt.str_ne hq
        have HK3 := Lib.hid (HK2.out fun e => absurd e hq)
        clear hq HK2
        go_wp2
        go_quiet ((go_at_call 24; refine Calls.quiet_of_same ((monthName_any m _ hlt).mono fun _ _ h => ⟨h.1, h.2.symm⟩)))
        go_wp2
        go_roundw
        case rel => exact ⟨m + 1, x + L, by omega, by have := HS.out; have := HX.out; have := HF.out; omega, by go_num, by go_num, show _ = _ by rw [HS.out, HX.out], HK3, hb.trans ((below_drewN _ _).mono hb.size)⟩
        case measure => simp [intOf]; omega
    · obtain ⟨r1, r2⟩ := HN.out fun h hh => HK.out h (by omega)
      have H1 := Lib.hid r1
      have H2 := Lib.hid r2
      clear r1 r2
      go_wp2
      go_ret2
      exact ⟨ret_tuple (val_int H1.out) (congrArg Value.bool H2.out), hb⟩
theorem Dt.nm_inj : ∀ m < 12, ∀ j < 12, Dt.nm m = Dt.nm j → m = j := by decide +kernel
theorem Dt.txt_size {d : Nat} (h : d < 366) : (Dt.txt d).size = 5 := by
  obtain ⟨m, k, hm, hk, rfl⟩ := Dt.txt_of h
  rw [Dt.txt_at hm hk, ByteArray.size_append, Dt.two_size, Dt.nm_size]
theorem read_yes (d : Nat) (w : World) (hw : Dt.Tab w) (h : d < 366) : Calls Tryd.prog 15 #[.string (Dt.txt d)] w fun e w' => e = .returned (.tuple #[.int .i64 (d : Int), .bool true]) ∧ Below w.heap.size w w' := by
  have hz := Dt.txt_size h
  obtain ⟨m, k, hm, hk, rfl⟩ := Dt.txt_of h
  have h31 := Dt.ln_le m hm
  rw [Dt.txt_at hm hk] at hz ⊢
  refine read_core _ (Dt.two (k + 1)) (Dt.nm m) w hw hz (Dt.app_left rfl) (Dt.app_right rfl (by rw [Dt.nm_size])) (k + 1) (by omega) (by omega)
    (fun t w ht => readPair_ok t _ w ht (by omega)) _ _ (fun j hj e hle => ?_) (fun hn => absurd (show k + 1 ≤ Dt.ln m by omega) (hn m hm rfl))
  obtain rfl := Dt.nm_inj m hm j hj e
  exact ⟨by omega, rfl⟩
theorem read_no (s : ByteArray) (w : World) (hw : Dt.Tab w) (hs : s.size ≤ maxLen) (h : ∀ d < 366, s ≠ Dt.txt d) : Calls Tryd.prog 15 #[.string s] w fun e w' => e = .returned (.tuple #[.int .i64 0, .bool false]) ∧ Below w.heap.size w w' := by
  by_cases h5 : s.size = 5
  · have hsp := Dt.halves (k := 2) h5 (by omega)
    have z1 : (s.extract 0 2).size = 2 := by rw [ByteArray.size_extract]; omega
    by_cases hp : ∃ n, n < 100 ∧ s.extract 0 2 = Dt.two n
    · obtain ⟨a, ha, ea⟩ := hp
      rcases Nat.eq_zero_or_pos a with rfl | hpos
      · exact read_bad s _ w h5 rfl 0 true (fun t w ht => readPair_ok t 0 w (ht.trans ea) ha) (Or.inr ⟨rfl, rfl⟩)
      · refine read_core s _ _ w hw h5 rfl rfl a hpos ha (fun t w ht => readPair_ok t _ w (ht.trans ea) ha) 0 false (fun m hm eq hle => ?_) (fun _ => ⟨rfl, rfl⟩)
        exfalso
        have hl := Dt.mon_of
        have hlt : Dt.fst m + (a - 1) < 366 := by
          have := Dt.fst_le (m + 1) (by omega)
          rw [Dt.fst_succ] at this
          omega
        apply h _ hlt
        rw [Dt.txt_at hm (by omega), hsp, ea, eq, show a - 1 + 1 = a by omega]
    · exact read_bad s _ w h5 rfl 0 false (fun t w ht => readPair_bad t w (ht ▸ z1) fun n hn e => hp ⟨n, hn, ht.symm.trans e⟩) (Or.inl rfl)
  · exact read_size s w hs h5
end Go.Proofs.YtgmcmidddhpbcaaDoor
