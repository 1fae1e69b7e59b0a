/- Contracts of tells and next. -/
import Derived.Test.YtogkaoiiddhdbaaLst
import Derived.Deep.QuietTactic
import Derived.BigQuiet
namespace Go.Proofs.Ytogkaoiiddhdbaa
open Go.RowKit

theorem tells_any (w : World) (A : Option Addr) (s : List UInt8) (c n : Nat) (G : Nat → Prop) (h : Dk.Bts w G A s) (hl : s.length = 512) (hn : n = 512) (hc : 512 ≤ c) :
    Calls Try.prog 90 #[.slice A n c] w fun e w' => e = .returned (.bool (Wl.tells s)) ∧ Below w.heap.size w w' := by
  subst hn
  obtain ⟨b, off, rfl, hbG, hcell⟩ := id h (by omega)
  have c0 := hcell 0 (by omega)
  rw [Nat.add_zero] at c0
  have hgd : s.getD 0 0 = s[0]'(by omega) := by simp [List.getD, hl]
  have hgd2 := Lib.hid hgd
  have HB : Hid (∀ w', Below w.heap.size w w' → Dk.Bts w' (fun k => G k ∧ k < w.heap.size) (some ⟨b, off, none⟩) s) := fun w' hb => h.lt.kept (fun k hk => hb.block k hk.2)
  have HT : Hid (∀ w', Below w.heap.size w w' → Dk.Bts w' (fun k => G k ∧ k < w.heap.size) (some ⟨b, off, none⟩) (s.take 508)) := fun w' hb => by
    have := Wl.btsSub (HB.out w' hb) 0 508
    rwa [List.drop_zero, Nat.add_zero] at this
  have hlt : (s.take 508).length = 508 := by rw [List.length_take]; omega
  unfold Wl.tells
  rw [hgd]
  clear hgd h hcell
  have hbl := Below.refl w.heap.size w
  have hc2 : (508 : Int) ≤ (c : Int) := by omega
  by_cases h1 : s[0]'(by omega) = 1 ∨ s[0]'(by omega) = 2
  · have e1 : (decide (s[0]'(by omega) = 1) || decide (s[0]'(by omega) = 2)) = true := by simpa using h1
    rw [e1, Bool.true_and]
    have hnum : Wd.valB (Wd.part s 508 4) < 18446744073709551616 := Wd.part_lt8 s 508 4 (by omega)
    have hcrc : Wd.crc (s.take 508) < 4294967296 := by unfold Wd.crc; omega
    have heq : ((((Wd.valB (Wd.part s 508 4) : Nat) : Int)) == ((Wd.crc (s.take 508) : Nat) : Int)) = decide (Wd.valB (Wd.part s 508 4) = Wd.crc (s.take 508)) := by
      by_cases h : Wd.valB (Wd.part s 508 4) = Wd.crc (s.take 508)
      · rw [h]; simp
      · rw [decide_eq_false h]; exact beq_eq_false_iff_ne.2 (by omega)
    have HEQ := Lib.hid heq
    have hwr : IntKind.u64.wrap ((Wd.crc (s.take 508) : Nat) : Int) = ((Wd.crc (s.take 508) : Nat) : Int) := by rw [IntKind.wrap_u64]; omega
    have hb1 := (hbl.drew).alloc (Nat.le_refl _) (.cells #[.slice (some ⟨b, off, none⟩) 508 c] 40)
    generalize decide (Wd.valB (Wd.part s 508 4) = Wd.crc (s.take 508)) = R at *
    clear e1 heq
    have h2 : (((s[0]'(by omega)).toNat : Int) != 1) = false ∨ ((((s[0]'(by omega)).toNat : Int) != 1) = true ∧ (((s[0]'(by omega)).toNat : Int) != 2) = false) := by
      rcases h1 with h1 | h1
      · left; rw [h1]; rfl
      · right; rw [h1]; exact ⟨rfl, rfl⟩
    clear h1
    generalize s[0]'(by omega) = x at *
    rcases h2 with h2 | ⟨h2, h3⟩
    all_goals
      go_enter Try.func90, Try.ntmps90
      go_wp2
      go_region_held3 (fun w' => Below w.heap.size w w') (first | exact hbl | exact hbl.drew | exact hb1 | exact hbw) (first
        | (go_at_call 98; refine (numberAt_sec _ _ s c 508 4 512 508 4 _ (HB.out _ (by assumption)) hl rfl (by decide) (by decide) (by omega) (by omega) (by omega)).mono ?_; rintro e w1 ⟨rfl, rfl⟩)
        | (go_at_call 95; refine (sum_one w.drew _ (s.take 508) c 508 _ _ (HT.out _ hbl.drew) (by omega) hlt rfl).mono ?_; rintro e w1 ⟨rfl, HW⟩; have hbw : Below w.heap.size w w1 := HW.out ▸ hb1; clear HW))
      all_goals go_wp2
      all_goals go_ret
      all_goals exact ⟨by rw [← HEQ.out]; rfl, hbw⟩
  · have e1 : (decide (s[0]'(by omega) = 1) || decide (s[0]'(by omega) = 2)) = false := by simpa using h1
    rw [e1, Bool.false_and]
    have h2 : (((s[0]'(by omega)).toNat : Int) != 1) = true := by
      refine bne_iff_ne.2 (fun e => h1 (.inl (UInt8.toNat_inj.1 ?_)))
      show _ = 1
      omega
    have h3 : (((s[0]'(by omega)).toNat : Int) != 2) = true := by
      refine bne_iff_ne.2 (fun e => h1 (.inr (UInt8.toNat_inj.1 ?_)))
      show _ = 2
      omega
    clear e1 h1
    generalize s[0]'(by omega) = x at *
    go_enter Try.func90, Try.ntmps90
    go_wp2
    go_ret
    exact ⟨rfl, hbl⟩
namespace Wl
theorem top_snoc (now : Nat) (l : List (List UInt8)) (s : List UInt8) : top now (l ++ [s]) = if tells s then max (top now l) (gen s) else top now l := by
  simp [top]
theorem top_lt (now : Nat) (l : List (List UInt8)) (h : now < 4294967296) : top now l < 4294967296 := by
  unfold top
  induction l generalizing now with
  | nil => exact h
  | cons s l ih =>
    rw [List.foldl_cons]
    have := gen_lt s
    by_cases hs : tells s = true
    · simp only [hs, if_true]; exact ih _ (by omega)
    · simp only [hs]; exact ih _ h
end Wl
theorem tells_yes (w : World) (A : Option Addr) (s : List UInt8) (c n : Nat) (G : Nat → Prop) (h : Dk.Bts w G A s) (hl : s.length = 512) (hn : n = 512) (hc : 512 ≤ c) (b : Bool) (hb : Wl.tells s = b) :
    Calls Try.prog 90 #[.slice A n c] w fun e w' => e = .returned (.bool b) ∧ Below w.heap.size w w' := by
  subst hb
  exact tells_any w A s c n G h hl hn hc
set_option maxHeartbeats 400000 in
theorem next_any (w : World) (A : Option Addr) (ps : List (List UInt8)) (c now : Nat) (G : Nat → Prop) (h : Wl.Prts w G A ps) (hn : ps.length ≤ 1000000) (hl : ∀ j (hj : j < ps.length), ps[j].length = 512) (hnow : now < 4294967296) :
    Calls Try.prog 71 #[.slice A ps.length c, .int .u32 (now : Int)] w fun e w' => e = .returned (.int .u64 (Wl.next ps now : Int)) ∧ Below w.heap.size w w' := by
  have H := Lib.hid h.lt
  have HL := Lib.hid hl
  clear h hl
  go_enter Try.func71, Try.ntmps71
  go_wp2
  go_loopw [5, 12] (fun v i wr => ∃ k m : Nat, k ≤ ps.length ∧ i = .int .i64 k ∧ v = .int .u32 m ∧ Hid (m = Wl.top now (ps.take k)) ∧ Below w.heap.size w wr) (fun _ i _ => ps.length - (intOf i).toNat)
  case atStart => exact ⟨0, now, by omega, rfl, rfl, rfl, Below.refl _ _⟩
  case round =>
    obtain ⟨k, m, hk, rfl, rfl, HM, hbk⟩ := hrel
    have hm : m < 4294967296 := by rw [HM.out]; exact Wl.top_lt _ _ hnow
    by_cases hlt : k < ps.length
    · obtain ⟨b, off, A', c', rfl, _, hc, hB, hnil, hcap⟩ := (H.out.kept (w' := wr) (fun q hq => hbk.block q hq.2)).at_ k hlt
      have hlen := HL.out k hlt
      rw [hlen] at hc hcap
      have HB := Lib.hid hB
      have HT := Lib.hid (Wl.top_snoc now (ps.take k) ps[k])
      rw [Wl.take_snoc ps k hlt] at HT
      have hg := Wl.gen_lt ps[k]
      clear hB hnil
      have hs0 := hbk.size
      have HBB : Hid (∀ w', Below wr.heap.size wr w' → Dk.Bts w' (fun q => ((G q ∧ q < w.heap.size) ∧ q < wr.heap.size)) A' ps[k]) := fun w' hb => HB.out.lt.kept (fun q hq => hb.block q hq.2)
      generalize ps[k] = s at *
      by_cases ht : Wl.tells s = true
      · have HTS := Lib.hid ht
        have HN : Hid (max m (Wl.gen s) = Wl.top now (ps.take (k + 1))) := show _ = _ by rw [HT.out, if_pos ht, HM.out]
        clear ht
        go_wp2_with (first
          | (go_at_call 90; refine (tells_yes _ A' s c' 512 _ HB.out hlen rfl hcap true HTS.out).mono ?_; rintro e w1 ⟨rfl, hb1⟩)
          | (go_at_call 87; refine (generationOf_any _ A' s c' 512 _ (HBB.out _ hb1) hlen rfl).mono ?_; rintro e w2 ⟨rfl, rfl⟩))
        go_roundw
        case rel => exact ⟨k + 1, max m (Wl.gen s), by omega, by go_num, Wd.val_int (by omega), HN, hbk.trans (hb1.mono hs0)⟩
        case measure => simp [intOf]; omega
      · have HTS : Hid (Wl.tells s = false) := show _ = _ by simpa using ht
        have HN : Hid (m = Wl.top now (ps.take (k + 1))) := show _ = _ by rw [HT.out, if_neg ht, HM.out]
        clear ht
        go_wp2_with (go_at_call 90; refine (tells_yes _ A' s c' 512 _ HB.out hlen rfl hcap false HTS.out).mono ?_; rintro e w1 ⟨rfl, hb1⟩)
        go_roundw
        case rel => exact ⟨k + 1, m, by omega, by go_num, rfl, HN, hbk.trans (hb1.mono hs0)⟩
        case measure => simp [intOf]; omega
    · have HT : Hid (m = Wl.top now ps) := show _ = _ by
        have := HM.out
        rwa [List.take_of_length_le (by omega)] at this
      by_cases h2 : (m + 1) % 2 = now % 2
      · have h3 : ((((m : Int) + 1) % 2 == (now : Int) % 2)) = true := beq_iff_eq.2 (by omega)
        have HE : Hid (Wl.next ps now = m + 2) := show _ = _ by unfold Wl.next; rw [← HT.out, if_pos h2]
        clear h2
        go_wp2
        go_ret
        exact ⟨Wd.ret_int (by rw [HE.out]; omega), hbk⟩
      · have h3 : ((((m : Int) + 1) % 2 == (now : Int) % 2)) = false := beq_eq_false_iff_ne.2 (by omega)
        have HE : Hid (Wl.next ps now = m + 1) := show _ = _ by unfold Wl.next; rw [← HT.out, if_neg h2]
        clear h2
        go_wp2
        go_ret
        exact ⟨Wd.ret_int (by rw [HE.out]; omega), hbk⟩
end Go.Proofs.Ytogkaoiiddhdbaa
