/- Contracts of Reads and Tells. -/
import Derived.Test.YtngpdjkeoodigaaRel
namespace Go.Proofs.Ytngpdjkeoodigaa
open Go.RowKit

namespace Dk
/-- Block g is a row of n bytes, whatever they are. -/
def Any8 (w : World) (g n : Nat) : Prop := ∃ cs : List Value, cs.length = n ∧ (∀ v ∈ cs, ∃ z, v = .int .u8 z) ∧ ∃ e, w.heap[g]? = some (.cells cs.toArray e (0, 0))
theorem Row.any8 {w : World} {g e : Nat} {l : List UInt8} (h : Row w g e l) : Any8 w g l.length := ⟨cells8 l, length_cells8 l, fun v hv => by
  obtain ⟨c, _, rfl⟩ := List.mem_map.1 hv
  exact ⟨_, rfl⟩, e, h⟩
theorem Any8.cell {w : World} {g n : Nat} (h : Any8 w g n) (j : Nat) (hj : j < n) : ∃ z, w.cell? ⟨g, j, none⟩ = some (.int .u8 z) := by
  obtain ⟨cs, hl, hv, e, hh⟩ := h
  obtain ⟨z, hz⟩ := hv cs[j] (List.getElem_mem (by omega))
  refine ⟨z, ?_⟩
  rw [cell_of_row w g j _ _ _ hh, List.getElem?_toArray, List.getElem?_eq_getElem (by omega), hz]
theorem Any8.free {w : World} {g n : Nat} (h : Any8 w g n) (j : Nat) : w.frozen? ⟨g, j, none⟩ = false := by
  obtain ⟨cs, hl, hv, e, hh⟩ := h
  exact frozen_row hh j
theorem Any8.set {w : World} {g n : Nat} (h : Any8 w g n) (j : Nat) (z : Int) : Any8 (w.setCell ⟨g, j, none⟩ (.int .u8 z)) g n := by
  obtain ⟨cs, hl, hv, e, hh⟩ := h
  refine ⟨cs.set j (.int .u8 z), by simp [hl], fun v hm => ?_, e, ?_⟩
  · rcases List.mem_or_eq_of_mem_set hm with h1 | h1
    · exact hv v h1
    · exact ⟨z, h1⟩
  · have := set_row hh j (.int .u8 z)
    simpa using this
theorem conv_nil (w : World) : (convert 34 9 (.slice none 0 0)).run Try.prog w = .ok (.string ⟨#[]⟩) w :=
  run_convert_bytes_nil w 34 5 Try.underlying34 Try.underlying5 _ _ 9 Try.underlying9
end Dk
set_option maxRecDepth 100000 in
set_option maxHeartbeats 1000000 in
theorem reads_any (w0 w : World) (p : Nat) (s : Dk.S) (r : Dk.R) (sv wv : Value) (i : Int) (hL : Dk.Live w0 (fun _ => False) w p s) (hR : Dk.RR w r sv wv) (h : Dk.Rel s r) :
    Calls Try.prog 12 #[.pointer (some ⟨p, 0, none⟩), Dk.rv r sv wv, .int .i64 i] w fun e w' => e = .returned (.bool true) ∧ Below w.heap.size w w' := by
  have HL := Lib.hid hL
  have HR := Lib.hid hR
  have HS := Lib.hid h
  clear hL hR h
  by_cases hin : 0 ≤ i ∧ i < r.n
  · obtain ⟨hi0, hi1⟩ := hin
    have HH := Lib.hid (show s.has i = true from Dk.has_of hi0 (by rw [HS.out.n]; exact hi1))
    cases hd : r.down with
    | false =>
      have HD := Lib.hid hd
      have HD' := Lib.hid (HS.out.dn.trans hd)
      clear hd
      go_enter Try.func12, Try.ntmps12
      go_wp2_with (first
        | (refine Dk.wpList_box30 rfl _ rfl r sv wv rfl ?_; intro w1 hr1 hb1 hs1; have HL1 := Lib.hid (HL.out.below hb1).1; have HR1 := Lib.hid (HR.out.below hb1); have RB1 := Lib.hid hr1)
        | (go_at_call 22; refine (read_new i HL1.out HH.out HD'.out).mono ?_; rintro e w2 ⟨rfl, HR2', hb2⟩; have HR2 := HR2'; rw [HS.out.get i] at HR2; have RB2 := Lib.hid (RB1.out.below hb2); have HRR2 := Lib.hid (HR1.out.below hb2); have hlen := HL1.out.get_len i; rw [HS.out.get i] at hlen; have HLen := Lib.hid hlen; clear HR2' hlen)
        | (refine Dk.wpList_load30 rfl _ rfl w.heap.size rfl r sv wv RB2.out ?_)
        | (go_at_call 32; refine (rread_yes _ r sv wv i HRR2.out hi0 hi1 HD.out).mono ?_; rintro e w3 ⟨rfl, hb3⟩; have HR3 := Lib.hid (HR2.out.kept (hb3.block _ HR2.out.lt)); have q1 := Dk.conv512 HR3.out HLen.out; have hb123 := (hb1.trans (hb2.mono hb1.size)).trans (hb3.mono (Nat.le_trans hb1.size hb2.size)); have hsz := hb2.size; unfold Dk.str))
      have HA3 : Hid (Dk.Any8 w3 w1.heap.size 512) := by have := HR3.out.any8; rw [HLen.out] at this; exact this
      clear HR3 HRR2 RB2 RB1 HR2 HL1 HR1 q1
      go_loopw [12] (fun a wr => ∃ j : Nat, j ≤ 512 ∧ a = .int .i64 j ∧ Hid (Dk.Any8 wr w1.heap.size 512) ∧ Below w.heap.size w wr) (fun a _ => 512 - (intOf a).toNat)
      case atStart => exact ⟨0, by omega, rfl, HA3, hb123⟩
      case round =>
        obtain ⟨j, hj, rfl, HAj, hbj⟩ := hrel
        by_cases h5 : j < 512
        · obtain ⟨z, hz⟩ := HAj.out.cell j h5
          have hf := HAj.out.free j
          have HN := Lib.hid (fun z => HAj.out.set j z)
          have HBN := Lib.hid (fun z => hbj.setCell (p := ⟨w1.heap.size, j, none⟩) (by show w.heap.size ≤ w1.heap.size; omega) (.int .u8 z))
          go_wp2
          go_roundw
          case rel => exact ⟨j + 1, by omega, by go_num, HN.out _, HBN.out _⟩
          case measure => simp [intOf]; omega
        · go_wp2
          go_ret
          exact ⟨rfl, hbj⟩
    | true =>
      have HD := Lib.hid hd
      have HD' := Lib.hid (HS.out.dn.trans hd)
      clear hd
      have hcn := Dk.conv_nil
      go_enter Try.func12, Try.ntmps12
      go_wp2_with (first
        | (refine Dk.wpList_box30 rfl _ rfl r sv wv rfl ?_; intro w1 hr1 hb1 hs1; have HL1 := Lib.hid (HL.out.below hb1).1; have HR1 := Lib.hid (HR.out.below hb1); have RB1 := Lib.hid hr1)
        | (go_at_call 22; refine (read_down HL1.out HH.out HD'.out).mono ?_; rintro e w2 ⟨rfl, rfl⟩)
        | (refine Dk.wpList_load30 rfl _ rfl w.heap.size rfl r sv wv RB1.out ?_)
        | (go_at_call 32; refine (rread_no _ r sv wv i HR1.out (.inr HD.out)).mono ?_; rw [if_pos ⟨hi0, hi1⟩]; rintro e w3 ⟨rfl, hb3⟩; have hb13 := hb1.trans (hb3.mono hb1.size)))
      go_loopw [12] (fun a wr => a = .int .i64 0 ∧ Below w.heap.size w wr) (fun _ _ => 0)
      case atStart => exact ⟨rfl, hb13⟩
      case round =>
        obtain ⟨rfl, hbj⟩ := hrel
        go_wp2
        go_ret
        exact ⟨rfl, hbj⟩
  · have HH := Lib.hid (show s.has i = false from Dk.hasn_of (by rw [HS.out.n]; exact hin))
    have hcn := Dk.conv_nil
    have HI := Lib.hid hin
    clear hin
    go_enter Try.func12, Try.ntmps12
    go_wp2_with (first
      | (refine Dk.wpList_box30 rfl _ rfl r sv wv rfl ?_; intro w1 hr1 hb1 hs1; have HL1 := Lib.hid (HL.out.below hb1).1; have HR1 := Lib.hid (HR.out.below hb1); have RB1 := Lib.hid hr1)
      | (go_at_call 22; refine (read_dead i HL1.out (.inl HH.out)).mono ?_; rw [if_pos HH.out]; rintro e w2 ⟨rfl, rfl⟩)
      | (refine Dk.wpList_load30 rfl _ rfl w.heap.size rfl r sv wv RB1.out ?_)
      | (go_at_call 32; refine (rread_no _ r sv wv i HR1.out (.inl HI.out)).mono ?_; rw [if_neg HI.out]; rintro e w3 ⟨rfl, hb3⟩; have hb13 := hb1.trans (hb3.mono hb1.size)))
    go_loopw [12] (fun a wr => a = .int .i64 0 ∧ Below w.heap.size w wr) (fun _ _ => 0)
    case atStart => exact ⟨rfl, hb13⟩
    case round =>
      obtain ⟨rfl, hbj⟩ := hrel
      go_wp2
      go_ret
      exact ⟨rfl, hbj⟩
namespace Dk
theorem Live.drewN {w0 w : World} {X : Nat → Prop} {p : Nat} {s : S} (h : Live w0 X w p s) (n : Nat) : Live w0 X (w.drewN n) p s := (h.below (below_drewN (Below.refl _ _) n)).1
end Dk
set_option maxRecDepth 100000 in
set_option maxHeartbeats 1000000 in
theorem tells_any (w0 w : World) (p : Nat) (s : Dk.S) (r : Dk.R) (sv wv : Value) (hL : Dk.Live w0 (fun _ => False) w p s) (hR : Dk.RR w r sv wv) (h : Dk.Rel s r) (hn : 1 ≤ r.n ∧ r.n ≤ 4096) :
    Calls Try.prog 10 #[.pointer (some ⟨p, 0, none⟩), Dk.rv r sv wv] w fun e w' => e = .returned (.bool true) ∧ Below w.heap.size w w' := by
  obtain ⟨Aw, capw, hwv⟩ := hR.2.1.shape
  subst hwv
  have HL := Lib.hid hL
  have HR := Lib.hid hR
  have HS := Lib.hid h
  obtain ⟨hn1, hn2⟩ := hn
  clear hL hR h
  go_enter Try.func10, Try.ntmps10
  go_wp2_with (refine Dk.wpList_box30 rfl _ rfl r sv (.slice Aw r.wait.length capw) rfl ?_; intro w1 hr1 hb1 hs1)
  have HL1 := Lib.hid (HL.out.below hb1).1
  have HR1 := Lib.hid (HR.out.below hb1)
  have RB1 := Lib.hid hr1
  have c0 := hr1.c0
  have c2 := hr1.c2
  have c4 := hr1.c4
  have Q26 : Hid (∀ n, Calls Try.prog 26 #[.pointer (some ⟨p, 0, none⟩)] (w1.drewN n) fun e w' => e = .returned (.int .i64 r.n) ∧ w' = w1.drewN n) := fun n => by
    rw [← HS.out.n]
    exact (size_live (HL1.out.drewN n)).mono fun _ _ ⟨h1, h2⟩ => ⟨h1, h2.symm⟩
  have Q20 : Hid (∀ n, Calls Try.prog 20 #[.pointer (some ⟨p, 0, none⟩)] (w1.drewN n) fun e w' => e = .returned (.bool r.down) ∧ w' = w1.drewN n) := fun n => by
    rw [← HS.out.dn]
    exact (down_live (HL1.out.drewN n)).mono fun _ _ ⟨h1, h2⟩ => ⟨h1, h2.symm⟩
  have Q17 : Hid (∀ n, Calls Try.prog 17 #[.pointer (some ⟨p, 0, none⟩)] (w1.drewN n) fun e w' => e = .returned (.int .i64 (r.wait.length : Int)) ∧ w' = w1.drewN n) := fun n => by
    rw [← HS.out.wt]
    exact (waiting_live (HL1.out.drewN n)).mono fun _ _ ⟨h1, h2⟩ => ⟨h1, h2.symm⟩
  clear hr1
  go_quiet (first
    | (go_at_call 26; exact Calls.quiet_of_same (Q26.out _))
    | (go_at_call 20; exact Calls.quiet_of_same (Q20.out _))
    | (go_at_call 17; exact Calls.quiet_of_same (Q17.out _)))
  go_wp2
  clear Q26 Q20 Q17 c0 c2 c4
  go_loopw [5] (fun a wr => ∃ j : Nat, j ≤ 42 ∧ a = .int .i64 ((j : Int) - 1) ∧ Below w1.heap.size w1 wr) (fun a _ => 42 - ((intOf a) + 1).toNat)
  case atStart => exact ⟨0, by omega, rfl, by first | exact Dk.below_drewN (Below.refl _ _) _ | exact (Below.refl _ _).drew⟩
  case round =>
    obtain ⟨j, hj, rfl, hbj⟩ := hrel
    have HLj := Lib.hid (HL1.out.below hbj).1
    have HRj := Lib.hid (HR1.out.below hbj)
    have RBj := Lib.hid (RB1.out.below hbj)
    have c0 := RBj.out.c0
    have hbw := hb1.trans (hbj.mono hb1.size)
    generalize hi : (j : Int) - 1 = i
    have hib : -1 ≤ i ∧ i ≤ 41 := by omega
    have HI := Lib.hid hi
    clear hi
    by_cases h1 : i ≤ r.n
    · by_cases h2 : i ≤ 40
      · go_wp2_with (first
          | (refine Dk.wpList_load30 rfl _ rfl w.heap.size rfl r sv (.slice Aw r.wait.length capw) RBj.out ?_)
          | (go_at_call 12; refine (reads_any w0 _ p s r sv (.slice Aw r.wait.length capw) i HLj.out HRj.out HS.out).mono ?_; rintro e w3 ⟨rfl, hb3⟩; have hb3' := hbj.trans (hb3.mono hbj.size)))
        go_roundw
        case rel => exact ⟨j + 1, by have := HI.out; omega, by have := HI.out; rw [show ((j + 1 : Nat) : Int) - 1 = i + 1 by omega], hb3'⟩
        case measure => have := HI.out; simp [intOf]; omega
      · go_wp2
        go_ret
        exact ⟨rfl, hbw⟩
    · have h1' : decide (i ≤ r.n) = false := decide_eq_false h1
      go_wp2
      go_ret
      exact ⟨rfl, hbw⟩
end Go.Proofs.Ytngpdjkeoodigaa
