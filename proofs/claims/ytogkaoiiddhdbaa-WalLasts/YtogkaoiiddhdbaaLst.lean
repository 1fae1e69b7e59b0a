/- Contracts over lists of byte slices: anyTooLong, needAll, cloneAll. -/
import Derived.Test.YtogkaoiiddhdbaaPcs
namespace Go.Proofs.Ytogkaoiiddhdbaa
open Go.RowKit

namespace Wl
theorem take_snoc {α : Type} (l : List α) (k : Nat) (h : k < l.length) : l.take k ++ [l[k]] = l.take (k + 1) := (List.take_succ_eq_append_getElem h).symm
theorem needs_snoc (l : List (List UInt8)) (x : List UInt8) : needs (l ++ [x]) = needs l + need x.length := by
  rw [needs_append, needs_cons, needs_nil, Nat.add_zero]
end Wl
theorem anyTooLong_any (w : World) (A : Option Addr) (ps : List (List UInt8)) (c : Nat) (G : Nat → Prop) (h : Wl.Prts w G A ps) (hn : ps.length ≤ 1000000) (hl : ∀ j (hj : j < ps.length), ps[j].length ≤ 9223372036854775807) :
    Calls Try.prog 54 #[.slice A ps.length c] w fun e w' => e = .returned (.bool (ps.any fun b => decide (8192 < b.length))) ∧ w = w' := by
  have H := Lib.hid h
  have HL := Lib.hid hl
  clear h hl
  go_enter Try.func54, Try.ntmps54
  go_wp2
  go_loop [7] (fun i => ∃ k : Nat, k ≤ ps.length ∧ i = .int .i64 k ∧ Hid ((ps.take k).any (fun b => decide (8192 < b.length)) = false)) (fun i => ps.length - (intOf i).toNat)
  case atStart => exact ⟨0, by omega, rfl, rfl⟩
  case round =>
    obtain ⟨k, hk, rfl, HA⟩ := hrel
    by_cases hlt : k < ps.length
    · obtain ⟨b, off, A', c', rfl, _, hc, _⟩ := H.out.at_ k hlt
      have hlen := HL.out k hlt
      by_cases h8 : 8192 < ps[k].length
      · have HT : Hid ((ps.any fun b => decide (8192 < b.length)) = true) := show _ = _ from List.any_eq_true.2 ⟨ps[k], List.getElem_mem hlt, by simpa using h8⟩
        go_wp2
        go_ret
        exact ⟨by rw [HT.out]; rfl, rfl⟩
      · have HN : Hid ((ps.take (k + 1)).any (fun b => decide (8192 < b.length)) = false) := show _ = _ by
          rw [← Wl.take_snoc ps k hlt, List.any_append, HA.out]
          simp
          omega
        go_wp2
        go_round
        case rel => exact ⟨k + 1, by omega, by go_num, HN⟩
        case measure => simp [intOf]; omega
    · have HT : Hid ((ps.any fun b => decide (8192 < b.length)) = false) := show _ = _ by
        have := HA.out
        rwa [List.take_of_length_le (by omega)] at this
      go_wp2
      go_ret
      exact ⟨by rw [HT.out]; rfl, rfl⟩
theorem needAll_any (w : World) (A : Option Addr) (ps : List (List UInt8)) (c : Nat) (G : Nat → Prop) (h : Wl.Prts w G A ps) (hn : ps.length ≤ 1000000) (hl : ∀ j (hj : j < ps.length), ps[j].length ≤ 8192) :
    Calls Try.prog 55 #[.slice A ps.length c] w fun e w' => e = .returned (.int .i64 (Wl.needs ps : Int)) ∧ w = w' := by
  have H := Lib.hid h
  have HL := Lib.hid hl
  clear h hl
  go_enter Try.func55, Try.ntmps55
  go_wp2
  go_loop [3, 8] (fun s i => ∃ k m : Nat, k ≤ ps.length ∧ i = .int .i64 k ∧ s = .int .i64 m ∧ Hid (m = Wl.needs (ps.take k)) ∧ m ≤ 17 * k) (fun _ i => ps.length - (intOf i).toNat)
  case atStart => exact ⟨0, 0, by omega, rfl, rfl, rfl, by omega⟩
  case round =>
    obtain ⟨k, m, hk, rfl, rfl, HM, hm⟩ := hrel
    by_cases hlt : k < ps.length
    · obtain ⟨b, off, A', c', rfl, _, hc, _⟩ := H.out.at_ k hlt
      have hlen := HL.out k hlt
      have hnd : Wl.need ps[k].length ≤ 17 := by unfold Wl.need; omega
      have HN : Hid (m + Wl.need ps[k].length = Wl.needs (ps.take (k + 1))) := show _ = _ by
        rw [← Wl.take_snoc ps k hlt, Wl.needs_snoc, HM.out]
      generalize ps[k].length = z at *
      go_wp2_with (go_at_call 11; refine (need_any z _ (by omega)).mono ?_; rintro e w1 ⟨rfl, rfl⟩)
      go_round
      case rel => exact ⟨k + 1, m + Wl.need z, by omega, by go_num, by go_num, HN, by omega⟩
      case measure => simp [intOf]; omega
    · have HT : Hid (m = Wl.needs ps) := show _ = _ by
        have := HM.out
        rwa [List.take_of_length_le (by omega)] at this
      go_wp2
      go_ret
      exact ⟨by rw [← HT.out]; rfl, rfl⟩
theorem cloneAll_any (w : World) (A : Option Addr) (ps : List (List UInt8)) (c : Nat) (G : Nat → Prop) (h : Wl.Prts w G A ps) (hn : ps.length ≤ 900000) (hl : ∀ j (hj : j < ps.length), ps[j].length ≤ 140737488355328) :
    Calls Try.prog 57 #[.slice A ps.length c] w fun e w' => Wl.NewR w ps e w' := by
  have H := Lib.hid h.lt
  have HL := Lib.hid hl
  clear h hl
  go_enter Try.func57, Try.ntmps57
  go_wp2
  go_loopw [3, 8] (fun v i wr => ∃ k : Nat, k ≤ ps.length ∧ i = .int .i64 k ∧ (∃ A' c', v = .slice A' k c') ∧ Hid (Wl.Rws wr w.heap.size v (ps.take k)) ∧ Below w.heap.size w wr) (fun _ i _ => ps.length - (intOf i).toNat)
  case atStart => exact ⟨0, by omega, rfl, ⟨none, 0, rfl⟩, Wl.Rws.nil _ _, Below.refl _ _⟩
  case round =>
    obtain ⟨k, hk, rfl, ⟨A1, c1, rfl⟩, HR, hbk⟩ := hrel
    have hs0 := hbk.size
    by_cases hlt : k < ps.length
    · obtain ⟨b, off, A', c', rfl, _, hc, hB, hnil, _⟩ := (H.out.kept (w' := wr) (fun q hq => hbk.block q hq.2)).at_ k hlt
      have hlen := HL.out k hlt
      have HB := Lib.hid hB
      have HX := Lib.hid hnil
      have hL := Lib.hid (Wl.take_snoc ps k hlt)
      have hlen1 : Hid ((ps.take (k + 1)).length = k + 1) := show _ = _ by rw [List.length_take]; omega
      clear hB hnil
      generalize ps[k] = l at *
      go_wp2_with (first
        | (go_at_call 52; refine (clone_bytes _ A' l c' _ HB.out HX.out hlen).mono ?_; rintro e w1 ⟨A2, c2, rfl, HO2, hb2⟩)
        | (at_builtin; refine Wl.wpList_append1 rfl (.tmp 12) (.tmp 15) rfl wr w.heap.size _ _ _ l HR.out rfl hb2 A2 l.length c2 w1.heap.size rfl rfl (Wl.Bts.mono HO2.out.bts (fun q hq => hq.1)) rfl HO2.out.nilcap HO2.out.lecap hL.out (k + 1) hlen1.out.symm (by rw [hlen1.out]; omega) hs0 ?_; intro A3 c3 w3 HR3 hb3))
      go_roundw
      case rel => exact ⟨k + 1, by omega, by go_num, ⟨A3, c3, rfl⟩, HR3, hbk.trans hb3⟩
      case measure => simp [intOf]; omega
    · have HT : Hid (k = ps.length) := show _ = _ by omega
      go_wp2
      go_ret
      obtain rfl := HT.out
      refine ⟨A1, c1, rfl, ?_, hbk⟩
      have := HR.out
      rw [List.take_of_length_le (by omega)] at this
      exact this
end Go.Proofs.Ytogkaoiiddhdbaa
