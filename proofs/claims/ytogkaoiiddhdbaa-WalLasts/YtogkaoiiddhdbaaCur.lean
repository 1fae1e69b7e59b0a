/- Contracts of current and readAll. -/
import Derived.Test.YtogkaoiiddhdbaaRec
namespace Go.Proofs.Ytogkaoiiddhdbaa
open Go.RowKit

namespace Wl
def curStep (a : Nat × Bool) (s : List UInt8) (i : Nat) : Nat × Bool := if isHead s i then (max a.1 (gen s), true) else a
def curTo (ps : List (List UInt8)) : Nat → Nat × Bool
  | 0 => (0, false)
  | j + 1 => curStep (curTo ps j) (ps.getD j []) j
theorem curTo_two (ps : List (List UInt8)) : curTo ps 2 = cur (ps.getD 0 []) (ps.getD 1 []) := by
  simp only [curTo, curStep, cur]
theorem curTo_lt (ps : List (List UInt8)) : ∀ j, (curTo ps j).1 < 4294967296
  | 0 => by simp [curTo]
  | j + 1 => by
    have := curTo_lt ps j
    have := gen_lt (ps.getD j [])
    unfold curTo curStep
    split
    · simp only; omega
    · assumption
theorem curTo_none (ps : List (List UInt8)) : ∀ j, (curTo ps j).2 = false → (curTo ps j).1 = 0
  | 0, _ => rfl
  | j + 1, h => by
    unfold curTo curStep at h ⊢
    split at h
    · cases h
    · rename_i h1
      rw [if_neg h1]
      exact curTo_none ps j h
def foundIn (ps : List (List UInt8)) : List (List UInt8) := if (curTo ps 2).2 = true then recs ((ps.drop (first ps.length (curTo ps 2).1)).take (area ps.length)) (curTo ps 2).1 else []
def NewC (w : World) (g : Nat) (rs : List (List UInt8)) (e : Ending) (w' : World) : Prop := ∃ A c, e = .returned (.tuple #[.int .u32 (g : Int), .slice A rs.length c]) ∧ Hid (Rws w' w.heap.size (.slice A rs.length c) rs) ∧ Below w.heap.size w w'
end Wl

set_option maxHeartbeats 1000000 in
theorem current_any (w : World) (A : Option Addr) (c : Nat) (ps : List (List UInt8)) (G : Nat → Prop) (h : Wl.Prts w G A ps) (hn : ps.length ≤ 4096) (h4 : 4 ≤ ps.length) (hl : ∀ s ∈ ps, s.length = 512) (hc : ps.length ≤ c) :
    Calls Try.prog 70 #[.slice A ps.length c] w fun e w' => Wl.NewC w (Wl.curTo ps 2).1 (Wl.foundIn ps) e w' := by
  have HL := Lib.hid hl
  have H := Lib.hid h.lt
  obtain ⟨b, off, rfl, _⟩ := h (by omega)
  have hbl := Below.refl w.heap.size w
  clear h hl
  have hc2 : (2 : Int) ≤ (c : Int) := by omega
  go_enter Try.func70, Try.ntmps70
  go_wp2
  go_loopw [4, 5, 13] (fun m fd i wr => ∃ (j M : Nat) (B : Bool), j ≤ 2 ∧ i = .int .i64 j ∧ m = .int .u32 M ∧ fd = .bool B ∧ Hid ((M, B) = Wl.curTo ps j) ∧ Below w.heap.size w wr) (fun _ _ i _ => 2 - (intOf i).toNat)
  case atStart => exact ⟨0, 0, false, by omega, rfl, rfl, rfl, rfl, hbl⟩
  case round =>
    obtain ⟨j, M, B, hj, rfl, rfl, rfl, HC, hbj⟩ := hrel
    have hs0 := hbj.size
    have hM : M < 4294967296 := by have := Wl.curTo_lt ps j; rw [← HC.out] at this; exact this
    by_cases hlt : j < 2
    · obtain ⟨b2, off2, A', c', e, _, hcell, hB, _, hcap⟩ := (H.out.kept (w' := wr) (fun q hq => hbj.block q hq.2)).at_ j (by omega)
      injection e with e
      injection e with e1 e2
      subst e1 e2
      have hlen := HL.out _ (List.getElem_mem (show j < ps.length by omega))
      have hgd : ps.getD j [] = ps[j] := by simp [List.getD, show j < ps.length by omega]
      have HS : Hid (Wl.curTo ps (j + 1) = if Wl.isHead ps[j] j then (max M (Wl.gen ps[j]), true) else (M, B)) := show _ = _ by
        rw [Wl.curTo, hgd, ← HC.out, Wl.curStep]
      rw [hlen] at hcell hcap
      have HB : Hid (∀ w', Below wr.heap.size wr w' → Dk.Bts w' (fun k => (G k ∧ k < w.heap.size) ∧ k < wr.heap.size) A' ps[j]) := fun w' hb => hB.lt.kept (fun q hq => hb.block q hq.2)
      have HB0 := Lib.hid hB
      have hgl := Wl.gen_lt ps[j]
      have HDF : Hid (Wl.isHead ps[j] j = (decide (Wl.gen ps[j] % 2 = j) && decide (ps[j] = Wl.head (Wl.gen ps[j])))) := show _ = _ from rfl
      have HLS := Lib.hid hlen
      clear hB hgd hlen
      generalize ps[j] = s at *
      by_cases h1 : Wl.gen s % 2 = j
      · have h1b : (((Wl.gen s : Int) % 2) == (j : Int)) = true := beq_iff_eq.2 (by omega)
        have HHD : Hid (∀ w1, Below wr.heap.size wr w1 → ∀ k, Dk.Row w1 k 5 (Wl.head (Wl.gen s)) → Calls Try.prog 88 #[.slice A' 512 c', .slice (some ⟨k, 0, none⟩) 512 512] w1 fun e w' => e = .returned (.bool (decide (s = Wl.head (Wl.gen s)))) ∧ w1 = w') := fun w1 hb1 k hk => by
          have := equal_any w1 A' _ s (Wl.head (Wl.gen s)) c' 512 _ _ (HB.out w1 hb1) hk.bts
          rw [HLS.out, Wl.length_head] at this
          exact this
        rw [decide_eq_true h1, Bool.true_and] at HDF
        by_cases h2 : s = Wl.head (Wl.gen s)
        · rw [decide_eq_true h2] at HDF HHD
          have HN : Hid ((max M (Wl.gen s), true) = Wl.curTo ps (j + 1)) := show _ = _ by rw [HS.out, HDF.out, if_pos rfl]
          clear h1 h2
          go_wp2_with (first
            | (go_at_call 87; refine (generationOf_any _ A' s c' 512 _ HB0.out HLS.out rfl).mono ?_; rintro e w1 ⟨rfl, rfl⟩)
            | (go_at_call 80; refine (head_any _ (Wl.gen s) hgl).mono ?_; rintro e w2 ⟨k, rfl, hk, HR2, hb2⟩)
            | (go_at_call 88; refine (HHD.out _ hb2 k HR2.out).mono ?_; rintro e w3 ⟨rfl, rfl⟩))
          go_roundw
          case rel => exact ⟨j + 1, max M (Wl.gen s), true, by omega, by go_num, Wd.val_int (by omega), rfl, HN, hbj.trans (hb2.mono hs0)⟩
          case measure => simp [intOf]; omega
        · rw [decide_eq_false h2] at HDF HHD
          have HN : Hid ((M, B) = Wl.curTo ps (j + 1)) := show _ = _ by rw [HS.out, HDF.out]; rfl
          clear h1 h2
          go_wp2_with (first
            | (go_at_call 87; refine (generationOf_any _ A' s c' 512 _ HB0.out HLS.out rfl).mono ?_; rintro e w1 ⟨rfl, rfl⟩)
            | (go_at_call 80; refine (head_any _ (Wl.gen s) hgl).mono ?_; rintro e w2 ⟨k, rfl, hk, HR2, hb2⟩)
            | (go_at_call 88; refine (HHD.out _ hb2 k HR2.out).mono ?_; rintro e w3 ⟨rfl, rfl⟩))
          go_roundw
          case rel => exact ⟨j + 1, M, B, by omega, by go_num, rfl, rfl, HN, hbj.trans (hb2.mono hs0)⟩
          case measure => simp [intOf]; omega
      · have h1b : (((Wl.gen s : Int) % 2) == (j : Int)) = false := beq_eq_false_iff_ne.2 (by omega)
        rw [decide_eq_false h1, Bool.false_and] at HDF
        have HN : Hid ((M, B) = Wl.curTo ps (j + 1)) := show _ = _ by rw [HS.out, HDF.out]; rfl
        clear h1
        go_wp2_with (go_at_call 87; refine (generationOf_any _ A' s c' 512 _ HB0.out HLS.out rfl).mono ?_; rintro e w1 ⟨rfl, rfl⟩)
        go_roundw
        case rel => exact ⟨j + 1, M, B, by omega, by go_num, rfl, rfl, HN, hbj⟩
        case measure => simp [intOf]; omega
    · obtain rfl : j = 2 := by omega
      have HD : Hid (Wl.foundIn ps = if B = true then Wl.recs ((ps.drop (Wl.first ps.length M)).take (Wl.area ps.length)) M else []) := show _ = _ by
        unfold Wl.foundIn
        rw [← HC.out]
      have HM : Hid ((Wl.curTo ps 2).1 = M) := show _ = _ by rw [← HC.out]
      cases B with
      | false =>
        have hM0 : M = 0 := by
          have := Wl.curTo_none ps 2
          rw [← HC.out] at this
          exact this rfl
        subst hM0
        go_wp2
        go_ret2
        rw [HM.out]
        have hd := HD.out
        rw [if_neg (by simp)] at hd
        rw [hd]
        exact ⟨none, 0, rfl, Wl.Rws.nil _ _, hbj⟩
      | true =>
        have hd := HD.out
        rw [if_pos rfl] at hd
        have har : 1 ≤ Wl.area ps.length := by unfold Wl.area; omega
        have hfa : Wl.first ps.length M + Wl.area ps.length ≤ ps.length := by
          unfold Wl.first Wl.area
          have : M % 2 = 0 ∨ M % 2 = 1 := by omega
          rcases this with h | h <;> rw [h] <;> omega
        have HF : Hid (∀ w1, Calls Try.prog 49 #[.int .i64 (ps.length : Int), .int .u32 (M : Int)] w1 fun e w' => e = .returned (.int .i64 (Wl.first ps.length M : Int)) ∧ w1 = w') := fun w1 => firstSector_any ps.length M w1 hn hM
        have HA : Hid (∀ w1, Calls Try.prog 13 #[.int .i64 (ps.length : Int)] w1 fun e w' => e = .returned (.int .i64 (Wl.area ps.length : Int)) ∧ w1 = w') := fun w1 => area_any ps.length w1 (by omega)
        have HP : Hid (Wl.Prts wr (fun k => G k ∧ k < w.heap.size) (some ⟨b, off + Wl.first ps.length M, none⟩) ((ps.drop (Wl.first ps.length M)).take (Wl.area ps.length))) := ((H.out.kept (w' := wr) (fun q hq => hbj.block q hq.2)).drop _).take _
        have hpl : ((ps.drop (Wl.first ps.length M)).take (Wl.area ps.length)).length = Wl.area ps.length := by
          rw [List.length_take, List.length_drop]; omega
        have HL2 : Hid (∀ s ∈ (ps.drop (Wl.first ps.length M)).take (Wl.area ps.length), s.length = 512) := fun s hs => HL.out s (List.mem_of_mem_drop (List.mem_of_mem_take hs))
        have HRO : Hid (∀ n c', n = Wl.area ps.length → Wl.area ps.length ≤ c' → Calls Try.prog 89 #[.slice (some ⟨b, off + Wl.first ps.length M, none⟩) n c', .int .u32 (M : Int)] wr fun e w' => Wl.NewR wr (Wl.foundIn ps) e w') := fun n c' hn' hc' => by
          have := recordsOf_any wr _ c' _ M _ HP.out (by rw [hpl]; omega) HL2.out (by rw [hpl]; exact hc') hM
          rw [hpl, ← hd, ← hn'] at this
          exact this
        clear hd hpl
        have hfc : Wl.first ps.length M < c := by omega
        generalize hrs : Wl.foundIn ps = rs at *
        have HRS := Lib.hid hrs
        clear hrs
        generalize Wl.first ps.length M = f at *
        generalize Wl.area ps.length = a at *
        go_wp2_with (first
          | (go_at_call 49; refine (HF.out _).mono ?_; rintro e w1 ⟨rfl, rfl⟩)
          | (go_at_call 13; refine (HA.out _).mono ?_; rintro e w1 ⟨rfl, rfl⟩)
          | (go_at_call 89; refine (HRO.out _ _ (by omega) (by omega)).mono ?_; rintro e w2 ⟨A2, c2, rfl, HR2, hb2⟩))
        go_ret2
        rw [HM.out, HRS.out]
        exact ⟨A2, c2, rfl, HR2.out.less hs0, hbj.trans (hb2.mono hs0)⟩
namespace Dk
theorem lastW_mem {l : List (Int × List UInt8)} {k : Int} {b : List UInt8} (h : lastW l k = some b) : (k, b) ∈ l := by
  cases hi : lastIx l k with
  | none => rw [lastIx_none hi] at h; cases h
  | some i =>
    obtain ⟨b', h1, h2⟩ := lastIx_some hi
    rw [h] at h2
    injection h2 with h2
    subst h2
    exact List.mem_of_getElem? h1
theorem get_len {w : World} {p : Nat} {F : Nat → Prop} {s : S} (h : Dsk w p F s) (k : Int) : (s.get k).length = 512 := by
  obtain ⟨a, c, v, hA, _⟩ := h
  unfold S.get
  cases hl : lastW s.wait k with
  | none => exact sec_len hA k
  | some b => exact hA.okw _ (lastW_mem hl)
theorem has_of {s : S} {i : Nat} (h : i < s.n.toNat) : s.has (i : Int) = true := by
  unfold S.has
  simp only [Bool.and_eq_true, decide_eq_true_eq]
  omega
end Dk
namespace Wl
theorem take_secs (s : Dk.S) (j : Nat) (h : j < s.n.toNat) : (secs s).take j ++ [s.get (j : Int)] = (secs s).take (j + 1) := by
  rw [← get_secs s j h]
  exact take_snoc _ j (by rw [length_secs]; exact h)
def NewE (w : World) (ps : List (List UInt8)) (e : Ending) (w' : World) : Prop := ∃ A' c', e = .returned (.tuple #[.slice A' ps.length c', .int .i64 0]) ∧ Hid (Rws w' w.heap.size (.slice A' ps.length c') ps) ∧ Below w.heap.size w w'
end Wl
theorem readAll_yes (w : World) (p : Nat) (F : Nat → Prop) (s : Dk.S) (h : Dk.Dsk w p F s) (hd : s.down = false) (hn0 : 0 ≤ s.n) (hn : s.n ≤ 4096) :
    Calls Try.prog 69 #[.pointer (some ⟨p, 0, none⟩)] w fun e w' => Wl.NewE w (Wl.secs s) e w' := by
  have H := Lib.hid h
  have HD := Lib.hid hd
  have HLen : Hid ((Wl.secs s).length = s.n.toNat) := Wl.length_secs s
  have HS : Hid (∀ j, j < s.n.toNat → (Wl.secs s).take j ++ [s.get (j : Int)] = (Wl.secs s).take (j + 1)) := fun j hj => Wl.take_secs s j hj
  have HSZ : Hid (∀ w1, Dk.Dsk w1 p F s → Calls Try.prog 48 #[.pointer (some ⟨p, 0, none⟩)] w1 fun e w' => e = .returned (.int .i64 s.n) ∧ w1 = w') := fun w1 hw1 => by
    obtain ⟨a, c, v, hA, _⟩ := hw1
    exact size_any w1 p a c v s hA
  have HH : Hid (∀ i, i < s.n.toNat → s.has (i : Int) = true) := fun i hi => Dk.has_of hi
  clear h hd
  obtain ⟨N, hN⟩ : ∃ N : Nat, s.n = (N : Int) := ⟨s.n.toNat, by omega⟩
  rw [hN] at HLen HS HSZ HH hn
  simp only [Int.toNat_natCast] at HLen HS HH
  clear hn0 hN
  have hbl := Below.refl w.heap.size w
  go_enter Try.func69, Try.ntmps69
  go_wp2_with (go_at_call 48; refine (HSZ.out _ H.out).mono ?_; rintro e w1 ⟨rfl, rfl⟩)
  go_loopw [4, 10] (fun v i wr => ∃ (j : Nat) (A' : Option Addr) (c' : Nat), j ≤ N ∧ i = .int .i64 j ∧ v = .slice A' j c' ∧ Hid (Wl.Rws wr w.heap.size (.slice A' j c') ((Wl.secs s).take j)) ∧ Below w.heap.size w wr) (fun _ i _ => N - (intOf i).toNat)
  case atStart => exact ⟨0, none, 0, by omega, rfl, rfl, Wl.Rws.nil _ _, hbl⟩
  case round =>
    obtain ⟨j, A', c', hj, rfl, rfl, HR, hbj⟩ := hrel
    have hs0 := hbj.size
    by_cases hlt : j < N
    · have HDj : Hid (Dk.Dsk wr p F s) := H.out.kept (fun k hk => hbj.block k (H.out.lt k hk))
      have hL := Lib.hid (HS.out j hlt)
      have hgl := Lib.hid (Dk.get_len H.out (j : Int))
      have hlen1 : Hid (((Wl.secs s).take (j + 1)).length = j + 1) := show _ = _ by rw [List.length_take, HLen.out]; omega
      go_wp2_with (first
        | (go_at_call 41; refine (read_yes _ p F s (j : Int) HDj.out (HH.out j hlt) HD.out).mono ?_; rintro e w1 ⟨rfl, HR1, hb1⟩)
        | (at_builtin; refine Wl.wpList_append1 rfl (.tmp 22) (.tmp 24) rfl wr w.heap.size _ _ _ (s.get (j : Int)) HR.out rfl hb1 (some ⟨wr.heap.size, 0, none⟩) 512 512 w1.heap.size rfl rfl (Wl.Bts.mono HR1.out.bts (fun q hq => by omega)) hgl.out.symm (by simp) (by rw [hgl.out]; exact Nat.le_refl _) hL.out (j + 1) hlen1.out.symm (by rw [hlen1.out]; omega) hs0 ?_; intro A3 c3 w3 HR3 hb3))
      go_roundw
      case rel => exact ⟨j + 1, A3, c3, by omega, by go_num, rfl, HR3, hbj.trans hb3⟩
      case measure => simp [intOf]; omega
    · obtain rfl : j = N := by omega
      go_wp2
      go_ret2
      refine ⟨A', c', by rw [HLen.out]; rfl, ?_, hbj⟩
      have := HR.out
      rw [List.take_of_length_le (by rw [HLen.out]; exact Nat.le_refl _)] at this
      rw [HLen.out]
      exact this
theorem readAll_no (w : World) (p : Nat) (F : Nat → Prop) (s : Dk.S) (h : Dk.Dsk w p F s) (hd : s.down = true) (hn0 : 1 ≤ s.n) (hn : s.n ≤ 4096) :
    Calls Try.prog 69 #[.pointer (some ⟨p, 0, none⟩)] w fun e w' => e = .returned (.tuple #[.slice none 0 0, .int .i64 3]) ∧ w = w' := by
  have H := Lib.hid h
  have HD := Lib.hid hd
  have HSZ : Hid (∀ w1, Dk.Dsk w1 p F s → Calls Try.prog 48 #[.pointer (some ⟨p, 0, none⟩)] w1 fun e w' => e = .returned (.int .i64 s.n) ∧ w1 = w') := fun w1 hw1 => by
    obtain ⟨a, c, v, hA, _⟩ := hw1
    exact size_any w1 p a c v s hA
  have HRD : Hid (Calls Try.prog 41 #[.pointer (some ⟨p, 0, none⟩), .int .i64 0] w fun e w' => e = .returned (.tuple #[.slice none 0 0, .int .i64 3]) ∧ w = w') := by
    have := read_no w p F s 0 h (.inr hd)
    rw [if_neg (by rw [show s.has 0 = true from Dk.has_of (i := 0) (by omega)]; simp)] at this
    exact this
  clear h hd
  generalize s.n = N at *
  go_enter Try.func69, Try.ntmps69
  go_wp2_with (go_at_call 48; refine (HSZ.out _ H.out).mono ?_; rintro e w1 ⟨rfl, rfl⟩)
  go_loop [4, 10] (fun v i => v = .slice none 0 0 ∧ i = .int .i64 0) (fun _ _ => 0)
  case atStart => exact ⟨rfl, rfl⟩
  case round =>
    obtain ⟨rfl, rfl⟩ := hrel
    go_wp2_with (go_at_call 41; refine HRD.out.mono ?_; rintro e w1 ⟨rfl, rfl⟩)
    go_ret2
    exact ⟨rfl, rfl⟩
end Go.Proofs.Ytogkaoiiddhdbaa
