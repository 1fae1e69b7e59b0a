/- Contract of Seats. -/
import Derived.Test.YtonfkonjkgalhaaDoorPlHas
namespace Go.Proofs.YtonfkonjkgalhaaDoor
open Go.RowKit Go.WideMaps
set_option linter.unusedVariables false

namespace Pl
def seatsOf (p : P) : List S := (all p).filter (hasS p)
/-- A list of seats is answered. -/
def SeatsR (l : List S) (w : World) (e : Ending) (w' : World) : Prop := ∃ A c, e = .returned (.slice A l.length c) ∧ OwnS w' w.heap.size (.slice A l.length c) l ∧ Below w.heap.size w w'
theorem gS_pair (l : List S) (k : Nat) (h : k < l.length) : l[k] = (gR l k, gC l k) := gS l k h
theorem take_filter {l : List S} {f : S → Bool} {k : Nat} (h : k < l.length) : (l.take (k + 1)).filter f = (l.take k).filter f ++ (if f (gR l k, gC l k) then [(gR l k, gC l k)] else []) := by
  rw [List.take_succ_eq_append_getElem h, List.filter_append, gS l k h]
  cases hf : f (gR l k, gC l k) <;> simp [hf]
theorem OwnS.at {w : World} {base n cap : Nat} {A : Option Addr} {l : List S} (h : OwnS w base (.slice A n cap) l) (k : Nat) (hk : k < l.length) : ∃ b, A = some ⟨b, 0, none⟩ ∧ b < w.heap.size ∧ base ≤ b ∧ w.cell? ⟨b, k * 2, none⟩ = some (.int .i64 (gR l k)) ∧ w.cell? ⟨b, k * 2 + 1, none⟩ = some (.int .u8 (gC l k)) := by
  obtain ⟨A', cap', hv, _, hF⟩ := h.sts
  injection hv with e1 e2 e3
  subst e1
  obtain ⟨_, ⟨hv', h0⟩ | ⟨g, cap2, cur, hv', hg, hh, h3⟩⟩ := h
  · omega
  · injection hv' with e1 e2 e3
    subst e1
    obtain ⟨b, off, e, hb, hc⟩ := hF (by omega)
    injection e with e
    injection e with e4 e5 e6
    subst e4 e5
    obtain ⟨c1, c2⟩ := hc k hk
    rw [Nat.zero_add] at c1 c2
    exact ⟨g, rfl, hb, hg, c1, c2⟩
theorem all_WS {p : P} (ho : rowsOk p = true) {s : S} (h : s ∈ all p) : WS s := by
  unfold all pls upto at h
  obtain ⟨q, hq, rfl⟩ := List.mem_map.1 h
  obtain ⟨j, hj, hq⟩ := List.mem_flatMap.1 hq
  obtain ⟨i, hi, rfl⟩ := List.mem_map.1 hq
  rw [List.mem_range] at hj
  simp [rowsOk] at ho
  unfold nrows at hj
  refine ⟨?_, ?_, Cd.bt_lo _ _, Cd.bt_hi _ _⟩ <;> simp only [seatOf] <;> omega
theorem pls_len (p : P) : (pls p).length = (all p).length := by unfold all; rw [List.length_map]
end Pl
set_option maxHeartbeats 1000000 in
set_option maxRecDepth 20000 in
theorem seats_any (p : Pl.P) (base g : Nat) (w : World) (ho : Pl.rowsOk p = true) (hl : Pl.lettersOk p.lt = true) (hm : Pl.MapAt w base g p (Pl.pls p)) :
    Calls Tryd.prog 20 #[.pointer (some ⟨g, 0, none⟩)] w (Pl.SeatsR (Pl.seatsOf p) w) := by
  obtain ⟨A, cap, m, H1, H2, H3, h4⟩ := hm.at_
  rw [Pl.pls_len] at H1 H2
  have hlen := Pl.all_len hl ho
  have HOR := Lib.hid H2
  have HF := Lib.hid (fun s (W : World) (hb : Below w.heap.size w W) (hs : Pl.WS s) => has_any p s base g W hl (hm.below hb) hs)
  have HWS := Lib.hid (fun s (h : s ∈ Pl.all p) => Pl.all_WS ho h)
  have HRS : Hid (((Pl.all p).take (Pl.all p).length).filter (Pl.hasS p) = Pl.seatsOf p) := show _ = _ by rw [List.take_length]; rfl
  have HTK := Lib.hid (fun k (h : k < (Pl.all p).length) => Pl.take_filter (f := Pl.hasS p) h)
  have HMEM : Hid (∀ k, k < (Pl.all p).length → (Pl.gR (Pl.all p) k, Pl.gC (Pl.all p) k) ∈ Pl.all p) := fun k h => by rw [← Pl.gS _ _ h]; exact List.getElem_mem h
  have cg : w.cell? ⟨g, 0, none⟩ = some (.slice A (Pl.all p).length cap) := (H1.cell 0).trans rfl
  have H20 : Hid (List.map (Pl.seatOf p) (Pl.pls p) = Pl.all p) := show _ = _ by rfl
  rw [H20.out] at HOR
  clear H1 H2 H3 h4 hm ho hl H20
  generalize Pl.all p = al at *
  go_enter Tryd.func20, Tryd.ntmps20
  go_wp2
  go_loopw [3, 11] (fun out i wr => ∃ (k : Nat) (l : List Pl.S) (B : Option Addr) (c : Nat), k ≤ al.length ∧ i = .int .i64 k ∧ out = .slice B l.length c ∧ l.length ≤ k ∧ Hid (Pl.OwnS wr w.heap.size (.slice B l.length c) l) ∧ Hid ((al.take k).filter (Pl.hasS p) = l) ∧ Hid (Below w.heap.size w wr)) (fun _ i _ => al.length - (intOf i).toNat)
  case atStart => exact ⟨0, [], none, 0, by omega, rfl, rfl, by simp, Pl.OwnS.nil _ _, show _ = _ by simp, Below.refl _ _⟩
  case round =>
    obtain ⟨k, l, B, c, hk, rfl, rfl, hlk, HO, HL, HB⟩ := hrel
    by_cases hlt : k < al.length
    · obtain ⟨b, rfl, hb, hbb, c0, c1⟩ := HOR.out.at k hlt
      have q0 : wr.cell? ⟨b, k * 2, none⟩ = some (.int .i64 (Pl.gR al k)) := (HB.out.cell (p := ⟨b, k * 2, none⟩) hb).trans c0
      have q1 : wr.cell? ⟨b, k * 2 + 1, none⟩ = some (.int .u8 (Pl.gC al k)) := (HB.out.cell (p := ⟨b, k * 2 + 1, none⟩) hb).trans c1
      have hzr := HB.out.size
      have HT := Lib.hid (HTK.out k hlt)
      have HFk := Lib.hid (fun (W : World) (hb : Below w.heap.size w W) => HF.out (Pl.gR al k, Pl.gC al k) W hb (HWS.out _ (HMEM.out k hlt)))
      generalize Pl.gR al k = sr at *
      generalize Pl.gC al k = sc at *
      unfold Pl.sv at HFk
      simp only at HFk
      cases hh : Pl.hasS p (sr, sc) with
      | false =>
        rw [hh] at HT HFk
        have HT2 : Hid ((al.take (k + 1)).filter (Pl.hasS p) = l) := show _ = _ by rw [HT.out, HL.out]; simp
        clear hh
        go_wp2_with (first
          | (refine Rw.wpList_alloc rfl 23 rfl [.int .i64 0, .int .u8 0] Pl.zSeat ?_; intro w2 K2 b2 z2; have HZ2 := Lib.hid z2; clear z2)
          | (refine Rw.wpList_store_whole rfl 23 _ _ rfl wr.heap.size rfl [.int .i64 sr, .int .u8 sc] rfl _ _ K2 Pl.iSeat rfl (by intro v hv; simp at hv; rcases hv with rfl | rfl <;> rfl) ?_; intro w3 K3 f3; have b3 : Below wr.heap.size wr w3 := b2.trans (f3.below b2.size (fun k hk => Nat.le_of_eq hk.symm)); have b03 := HB.out.trans (b3.mono hzr); have e0 : w3.cell? ⟨wr.heap.size, 0, none⟩ = some (.int .i64 sr) := (K3.cell 0).trans rfl; have e1 : w3.cell? ⟨wr.heap.size, 1, none⟩ = some (.int .u8 sc) := (K3.cell 1).trans rfl; have HFw := Lib.hid (HFk.out w3 b03))
          | (go_at_call 23; refine HFw.out.mono ?_; rintro e w4 ⟨rfl, hb4⟩; have b34 : Below wr.heap.size wr w4 := b3.trans (hb4.mono b3.size); have b04 := b03.trans (hb4.mono b03.size)))
        go_roundw
        case rel => exact ⟨k + 1, l, B, c, by omega, by go_num, rfl, by omega, HO.out.below b34, HT2, b04⟩
        case measure => simp [intOf]; omega
      | true =>
        rw [hh] at HT HFk
        have HT2 : Hid ((al.take (k + 1)).filter (Pl.hasS p) = l ++ [(sr, sc)]) := show _ = _ by rw [HT.out, HL.out]; simp
        have hl6 : l.length < 100000 := by omega
        clear hh
        go_wp2_with (first
          | (refine Rw.wpList_alloc rfl 23 rfl [.int .i64 0, .int .u8 0] Pl.zSeat ?_; intro w2 K2 b2 z2; have HZ2 := Lib.hid z2; clear z2)
          | (refine Rw.wpList_store_whole rfl 23 _ _ rfl wr.heap.size rfl [.int .i64 sr, .int .u8 sc] rfl _ _ K2 Pl.iSeat rfl (by intro v hv; simp at hv; rcases hv with rfl | rfl <;> rfl) ?_; intro w3 K3 f3; have b3 : Below wr.heap.size wr w3 := b2.trans (f3.below b2.size (fun k hk => Nat.le_of_eq hk.symm)); have b03 := HB.out.trans (b3.mono hzr); have e0 : w3.cell? ⟨wr.heap.size, 0, none⟩ = some (.int .i64 sr) := (K3.cell 0).trans rfl; have e1 : w3.cell? ⟨wr.heap.size, 1, none⟩ = some (.int .u8 sc) := (K3.cell 1).trans rfl; have HFw := Lib.hid (HFk.out w3 b03))
          | (go_at_call 23; refine HFw.out.mono ?_; rintro e w4 ⟨rfl, hb4⟩; have b34 : Below wr.heap.size wr w4 := b3.trans (hb4.mono b3.size); have b04 := b03.trans (hb4.mono b03.size); have ba : Below w4.heap.size w4 (w4.alloc (.cells #[.int .i64 sr, .int .u8 sc] 23)) := (Below.refl _ _).alloc (Nat.le_refl _) _; have HOa := Lib.hid ((HO.out.below b34).below ba); have hba := Nat.le_trans b04.size ba.size; have b05 := b04.trans (ba.mono b04.size); have HSc := Lib.hid (Pl.Sc.new (sr, sc) w4); have m0 := (hb4.cell (p := ⟨wr.heap.size, 0, none⟩) K3.lt).trans e0; have m1 := (hb4.cell (p := ⟨wr.heap.size, 1, none⟩) K3.lt).trans e1)
          | (refine Rw.wpList_appendS rfl (.tmp 18) (.tmp 20) rfl w.heap.size (.slice B l.length c) l (sr, sc) HOa.out rfl w4.heap.size rfl HSc.out hl6 hba (l.length + 1) rfl ?_; intro A5 c5 w5 h51 h52 h53))
        go_roundw
        case rel => exact ⟨k + 1, l ++ [(sr, sc)], A5, c5, by omega, by go_num, by simp, by simp; omega, by simpa using h51, HT2, b05.trans h52.out⟩
        case measure => simp [intOf]; omega
    · have hkn : k = al.length := by omega
      subst hkn
      rw [HRS.out] at HL
      have h1 := HL.out
      clear HL
      subst h1
      go_wp2
      go_ret
      exact ⟨B, c, rfl, HO.out, HB.out⟩
end Go.Proofs.YtonfkonjkgalhaaDoor
