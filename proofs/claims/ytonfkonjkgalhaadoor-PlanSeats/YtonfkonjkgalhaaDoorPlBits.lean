/- Contract of Bits. -/
import Derived.Test.YtonfkonjkgalhaaDoorPlBw
import Derived.Test.YtonfkonjkgalhaaDoorPlSeats
import Derived.Deep.OwnRows
namespace Go.Proofs.YtonfkonjkgalhaaDoor
open Go.RowKit Go.WideMaps
set_option linter.unusedVariables false

namespace Pl
theorem infoU : (Tryd.prog.info? 63).map (fun i => (i.zero, i.size, i.bytes)) = some (some (.int .u64 0), 1, 8) := by kernel_rfl
theorem iU : (Tryd.prog.info? 63).map (·.size) = some 1 := by kernel_rfl
theorem zeros_made (n : Nat) : madeCells #[.int .u64 0] n = (cellsN (List.replicate n 0)).toArray := by
  apply Array.toList_inj.1
  rw [toList_madeCells_one]
  simp [cellsN]
theorem Nums.blk {w : World} {b : Nat} {ws : List Nat} (h : Rw.Blk w b 63 (cellsN ws)) : Nums w w.heap.size (some ⟨b, 0, none⟩) ws := fun _ =>
  ⟨b, 0, rfl, h.lt, fun j hj => by rw [Nat.zero_add, h.cell j]; exact cellsN_get ws j hj⟩
/-- What Bits answers. -/
def BitsR (p : P) (l : List S) (w : World) (e : Ending) (w' : World) : Prop :=
  (l.all (hasS p) = false ∧ e = .returned (.tuple #[.slice none 0 0, .int .i64 15]) ∧ Below w.heap.size w w') ∨
  (l.all (hasS p) = true ∧ ¬ l.Nodup ∧ e = .returned (.tuple #[.slice none 0 0, .int .i64 8]) ∧ Below w.heap.size w w') ∨
  (l.all (hasS p) = true ∧ l.Nodup ∧ ∃ b ws, e = .returned (.tuple #[.slice (some ⟨b, 0, none⟩) (((all p).length + 63) / 64) (((all p).length + 63) / 64), .int .i64 0]) ∧ Bw ws (((all p).length + 63) / 64) (bset p l) ∧ Rw.Blk w' b 63 (cellsN ws) ∧ w.heap.size ≤ b ∧ Below w.heap.size w w')
theorem all_take {l : List S} {f : S → Bool} {k : Nat} (h : k < l.length) (hk : (l.take k).all f = true) (hf : f (gR l k, gC l k) = true) : (l.take (k + 1)).all f = true := by
  rw [List.take_succ_eq_append_getElem h, List.all_append, hk, gS l k h]
  simp [hf]
theorem all_not {l : List S} {f : S → Bool} {k : Nat} (h : k < l.length) (hf : f (gR l k, gC l k) = false) : l.all f = false := by
  rw [List.all_eq_false]
  exact ⟨l[k], List.getElem_mem h, by rw [gS l k h, hf]; simp⟩
theorem take_dup {l : List S} {k : Nat} (h : k < l.length) (hm : (gR l k, gC l k) ∈ l.take k) : ¬ l.Nodup := by
  intro hn
  rw [← gS l k h] at hm
  obtain ⟨j, hj, e⟩ := List.getElem_of_mem hm
  rw [List.length_take] at hj
  rw [List.getElem_take] at e
  have := nodup_inj (by omega) h hn e
  omega
theorem take_nodup {l : List S} {k : Nat} (h : k < l.length) (hn : (l.take k).Nodup) (hm : (gR l k, gC l k) ∉ l.take k) : (l.take (k + 1)).Nodup := by
  rw [List.take_succ_eq_append_getElem h, List.nodup_append]
  refine ⟨hn, by simp, fun a ha b hb e => ?_⟩
  simp at hb
  subst hb
  subst e
  exact hm (by rw [← gS l k h]; exact ha)
end Pl
theorem isSet_at (A : Option Addr) (l : List Nat) (cap len B : Nat) (x : Int) (n : Nat) (w : World) (hlen : len = l.length) (hx : x = n) (h : Pl.Nums w B A l) (hn : n / 64 < l.length) (hl : l.length ≤ 1000000) (h64 : ∀ j, Pl.gN l j < 18446744073709551616) :
    Calls Tryd.prog 46 #[.slice A len cap, .int .i64 x] w fun e w' => e = .returned (.bool (Pl.on l n)) ∧ w = w' := by
  subst hlen
  exact isSet_any A l cap B x n w hx h hn hl h64
set_option maxHeartbeats 2000000 in
set_option maxRecDepth 20000 in
theorem bits_any (p : Pl.P) (l : List Pl.S) (A : Option Addr) (cap B base g : Nat) (w : World) (ho : Pl.rowsOk p = true) (hl : Pl.lettersOk p.lt = true) (hm : Pl.MapAt w base g p (Pl.pls p)) (h : Pl.Sts w B A l) (hB : B ≤ w.heap.size) (hll : l.length ≤ 1000000) (hws : ∀ s ∈ l, Pl.WS s) :
    Calls Tryd.prog 30 #[.pointer (some ⟨g, 0, none⟩), .slice A l.length cap] w (Pl.BitsR p l w) := by
  have hlen := Pl.all_len hl ho
  have HS := Lib.hid h
  have HF := Lib.hid (fun s (W : World) (hb : Below w.heap.size w W) (hs : Pl.WS s) => has_any p s base g W hl (hm.below hb) hs)
  have HNm := Lib.hid (fun s (W : World) (hb : Below w.heap.size w W) (hs : Pl.WS s) => number_any p s base g W hl (hm.below hb) hs)
  have HWd := Lib.hid (fun (W : World) (hb : Below w.heap.size w W) => words_any p base g W (hm.below hb) (by rw [Pl.pls_len]; omega))
  have HWS : Hid (∀ k, k < l.length → Pl.WS (Pl.gR l k, Pl.gC l k)) := fun k hk => by rw [← Pl.gS _ _ hk]; exact hws _ (List.getElem_mem hk)
  have HAT := Lib.hid (fun k (h : k < l.length) => Pl.all_take (f := Pl.hasS p) h)
  have HAN := Lib.hid (fun k (h : k < l.length) => Pl.all_not (f := Pl.hasS p) h)
  have HMk : Hid (∀ (W : Nat) (L C : Int) (x : World), L = W → C = W → W ≤ 1000 → (Instr.makeSlice 49 (.int .i64 L) (.int .i64 C)).run Tryd.prog x = .ok (.slice (some ⟨x.heap.size, 0, none⟩) W W) (x.alloc (.cells (Pl.cellsN (List.replicate W 0)).toArray 63))) := fun W L C x hL hC hW => by
    subst hL hC
    rw [← Pl.zeros_made]
    exact run_make_row' 49 63 (.int .u64 0) 8 Tryd.underlying49 Pl.infoU rfl .i64 .i64 W (by omega) (by omega) x
  have hln := Pl.pls_len p
  rw [hln] at HWd
  clear h hm hws hl ho hln
  obtain ⟨N, hN⟩ : ∃ N, N = (Pl.all p).length := ⟨_, rfl⟩
  have HN := Lib.hid hN
  rw [← hN] at HWd hlen
  obtain ⟨W, hW⟩ : ∃ W, W = (N + 63) / 64 := ⟨_, rfl⟩
  have HW := Lib.hid hW
  rw [← hW] at HWd
  have hW1 : W ≤ 1000 := by omega
  have HMM := Lib.hid (fun x => HMk.out W W W x rfl rfl hW1)
  clear hN hW HMk
  go_enter Tryd.func30, Tryd.ntmps30
  go_wp2
  go_loopw [14] (fun i wr => ∃ (k : Nat), k ≤ l.length ∧ i = .int .i64 k ∧ Hid ((l.take k).all (Pl.hasS p) = true) ∧ Hid (Below w.heap.size w wr)) (fun i _ => l.length - (intOf i).toNat)
  case atStart => exact ⟨0, by omega, rfl, show _ = _ by simp, Below.refl _ _⟩
  case round =>
    obtain ⟨wr1, ewr1⟩ : ∃ x, x = wr := ⟨_, rfl⟩
    subst ewr1
    obtain ⟨k, hk, rfl, HA, HBr⟩ := hrel
    by_cases hlt : k < l.length
    · obtain ⟨b, off, rfl, hb, hc⟩ := HS.out (by omega)
      obtain ⟨c0, c1⟩ := hc k hlt
      have hbB : b < w.heap.size := by omega
      have q0 : wr1.cell? ⟨b, off + k * 2, none⟩ = some (.int .i64 (Pl.gR l k)) := (HBr.out.cell (p := ⟨b, off + k * 2, none⟩) hbB).trans c0
      have q1 : wr1.cell? ⟨b, off + k * 2 + 1, none⟩ = some (.int .u8 (Pl.gC l k)) := (HBr.out.cell (p := ⟨b, off + k * 2 + 1, none⟩) hbB).trans c1
      have hzr := HBr.out.size
      have HT := Lib.hid (HAT.out k hlt HA.out)
      have HTN := Lib.hid (HAN.out k hlt)
      have HFk := Lib.hid (fun (W : World) (hb : Below w.heap.size w W) => HF.out (Pl.gR l k, Pl.gC l k) W hb (HWS.out k hlt))
      generalize Pl.gR l k = sr at *
      generalize Pl.gC l k = sc at *
      unfold Pl.sv at HFk
      simp only at HFk
      clear hc c0 c1
      cases hh : Pl.hasS p (sr, sc) with
      | false =>
        have HTN2 := Lib.hid (HTN.out hh)
        rw [hh] at HFk
        clear hh
        go_wp2_with (first
          | (refine Rw.wpList_alloc rfl 23 rfl [.int .i64 0, .int .u8 0] Pl.zSeat ?_; intro w2 K2 b2 z2; have HZ2 := Lib.hid z2; clear z2)
          | (refine Rw.wpList_store_whole rfl 23 _ _ rfl wr1.heap.size rfl [.int .i64 sr, .int .u8 sc] rfl _ _ K2 Pl.iSeat rfl (by intro v hv; simp at hv; rcases hv with rfl | rfl <;> rfl) ?_; intro w3 K3 f3; have b3 : Below wr1.heap.size wr1 w3 := b2.trans (f3.below b2.size (fun k hk => Nat.le_of_eq hk.symm)); have b03 := HBr.out.trans (b3.mono hzr); have e0 : w3.cell? ⟨wr1.heap.size, 0, none⟩ = some (.int .i64 sr) := (K3.cell 0).trans rfl; have e1 : w3.cell? ⟨wr1.heap.size, 1, none⟩ = some (.int .u8 sc) := (K3.cell 1).trans rfl; have HFw := Lib.hid (HFk.out w3 b03))
          | (go_at_call 23; refine HFw.out.mono ?_; rintro e w4 ⟨rfl, hb4⟩; have b04 := b03.trans (hb4.mono b03.size)))
        go_ret2
        exact .inl ⟨HTN2.out, rfl, b04⟩
      | true =>
        have HT2 := Lib.hid (HT.out hh)
        rw [hh] at HFk
        clear hh
        go_wp2_with (first
          | (refine Rw.wpList_alloc rfl 23 rfl [.int .i64 0, .int .u8 0] Pl.zSeat ?_; intro w2 K2 b2 z2; have HZ2 := Lib.hid z2; clear z2)
          | (refine Rw.wpList_store_whole rfl 23 _ _ rfl wr1.heap.size rfl [.int .i64 sr, .int .u8 sc] rfl _ _ K2 Pl.iSeat rfl (by intro v hv; simp at hv; rcases hv with rfl | rfl <;> rfl) ?_; intro w3 K3 f3; have b3 : Below wr1.heap.size wr1 w3 := b2.trans (f3.below b2.size (fun k hk => Nat.le_of_eq hk.symm)); have b03 := HBr.out.trans (b3.mono hzr); have e0 : w3.cell? ⟨wr1.heap.size, 0, none⟩ = some (.int .i64 sr) := (K3.cell 0).trans rfl; have e1 : w3.cell? ⟨wr1.heap.size, 1, none⟩ = some (.int .u8 sc) := (K3.cell 1).trans rfl; have HFw := Lib.hid (HFk.out w3 b03))
          | (go_at_call 23; refine HFw.out.mono ?_; rintro e w4 ⟨rfl, hb4⟩; have b04 := b03.trans (hb4.mono b03.size)))
        go_roundw
        case rel => exact ⟨k + 1, by omega, by go_num, HT2, b04⟩
        case measure => simp [intOf]; omega
    · have hkn : k = l.length := by omega
      have HAll : Hid (l.all (Pl.hasS p) = true) := show _ = _ by have := HA.out; rwa [hkn, List.take_length] at this
      have hzr := HBr.out.size
      have hmk := HMM.out wr1
      have HWd1 := Lib.hid (HWd.out wr1 HBr.out)
      clear HA hkn
      go_wp2_with (first | (go_at_call 45; refine HWd1.out.mono ?_; rintro e w' ⟨rfl, rfl⟩))
      have HB7 : Hid (Rw.Blk (wr1.alloc (.cells (Pl.cellsN (List.replicate W 0)).toArray 63)) wr1.heap.size 63 (Pl.cellsN (List.replicate W 0))) := Rw.Blk.made wr1 63 _
      have hb7 : Below wr1.heap.size wr1 (wr1.alloc (.cells (Pl.cellsN (List.replicate W 0)).toArray 63)) := (Below.refl _ _).alloc (Nat.le_refl _) _
      have HB07 := Lib.hid (HBr.out.trans (hb7.mono hzr))
      have HZ : Hid (Pl.Bw (List.replicate W 0) W (Pl.bset p (l.take 0))) := (Pl.Bw.zero W).cong (fun n _ => by simp [Pl.bset])
      have HIN : Hid (∀ k, k < l.length → (Pl.gR l k, Pl.gC l k) ∈ Pl.all p) := fun k hk => by
        have := HAll.out
        rw [List.all_eq_true] at this
        exact Pl.hasS_mem (this _ (by rw [← Pl.gS _ _ hk]; exact List.getElem_mem hk))
      have HTK : Hid (∀ k, ∀ t ∈ l.take k, t ∈ Pl.all p) := fun k t ht => by
        have := HAll.out
        rw [List.all_eq_true] at this
        exact Pl.hasS_mem (this _ (List.mem_of_mem_take ht))
      have HTD := Lib.hid (fun k (h : k < l.length) => Pl.take_dup h)
      have HTN := Lib.hid (fun k (h : k < l.length) => Pl.take_nodup h)
      have HTA : Hid (∀ k, k < l.length → l.take (k + 1) = l.take k ++ [(Pl.gR l k, Pl.gC l k)]) := fun k hk => by rw [List.take_succ_eq_append_getElem hk, Pl.gS l k hk]
      clear hb7 hmk
      go_loopw [28] (fun i wr => ∃ (k : Nat) (ws : List Nat), k ≤ l.length ∧ i = .int .i64 k ∧ Hid (Rw.Blk wr wr1.heap.size 63 (Pl.cellsN ws)) ∧ Hid (Pl.Bw ws W (Pl.bset p (l.take k))) ∧ Hid ((l.take k).Nodup) ∧ Hid (Below w.heap.size w wr)) (fun i _ => l.length - (intOf i).toNat)
      case atStart => exact ⟨0, _, by omega, rfl, HB7, HZ, show List.Nodup _ by simp, HB07⟩
      case round =>
        obtain ⟨wr2, ewr2⟩ : ∃ x, x = wr := ⟨_, rfl⟩
        subst ewr2
        obtain ⟨k2, ws, hk2, rfl, HK2, HW2, HN2, HBr2⟩ := hrel
        by_cases hlt2 : k2 < l.length
        · obtain ⟨b, off, rfl, hb, hc⟩ := HS.out (by omega)
          obtain ⟨c0, c1⟩ := hc k2 hlt2
          have hbB : b < w.heap.size := by omega
          have q0 : wr2.cell? ⟨b, off + k2 * 2, none⟩ = some (.int .i64 (Pl.gR l k2)) := (HBr2.out.cell (p := ⟨b, off + k2 * 2, none⟩) hbB).trans c0
          have q1 : wr2.cell? ⟨b, off + k2 * 2 + 1, none⟩ = some (.int .u8 (Pl.gC l k2)) := (HBr2.out.cell (p := ⟨b, off + k2 * 2 + 1, none⟩) hbB).trans c1
          have hzr2 := HBr2.out.size
          obtain ⟨j, hj, hjn, _⟩ := Pl.num_ix (HIN.out k2 hlt2)
          have HNk := Lib.hid (fun (W : World) (hb : Below w.heap.size w W) => HNm.out (Pl.gR l k2, Pl.gC l k2) W hb (HWS.out k2 hlt2))
          have hbm := Pl.bset_mem (l := l.take k2) (HIN.out k2 hlt2) hjn (HTK.out k2)
          have HBM := Lib.hid hbm
          have HSN := Lib.hid (Pl.bset_snoc p (l.take k2) _ j hjn)
          rw [← HTA.out k2 hlt2] at HSN
          have HD := Lib.hid (HTD.out k2 hlt2)
          have HD2 := Lib.hid (HTN.out k2 hlt2 HN2.out)
          have hjN : j < N := by rw [HN.out]; exact hj
          have hjW : j / 64 < W := by rw [HW.out]; omega
          have hj64 : j < 64 * W := by omega
          have hwl := HW2.out.len
          have HWL := Lib.hid hwl
          have hjw : j / 64 < ws.length := by omega
          have hon := HW2.out.bit j hj64
          rw [HBM.out] at hon
          have HON := Lib.hid hon
          obtain ⟨x, hx⟩ : ∃ x, x = Pl.num p (Pl.gR l k2, Pl.gC l k2) := ⟨_, rfl⟩
          have HX : Hid (x = (j : Nat)) := show _ = _ by rw [hx]; exact hjn
          rw [← hx] at HNk
          have HIS := Lib.hid (fun (W' : World) (hk : Rw.Blk W' wr1.heap.size 63 (Pl.cellsN ws)) => isSet_at (some ⟨wr1.heap.size, 0, none⟩) ws W W W'.heap.size x j W' HWL.out.symm HX.out (Pl.Nums.blk hk) hjw (by omega) HW2.out.lt)
          have hx0 : 0 ≤ x := by have := HX.out; omega
          have hx1 : x ≤ 1000000 := by have := HX.out; omega
          have hq : x / 64 = (j / 64 : Nat) := by have := HX.out; omega
          have hql : ((j / 64 : Nat) : Int) < (W : Int) := by omega
          have HG : Hid ((Pl.cellsN ws)[j / 64]? = some (.int .u64 (Pl.gN ws (j / 64)))) := Pl.cellsN_get ws _ hjw
          have HBS := Lib.hid (HW2.out.set hj64)
          have hjc : j / 64 < (Pl.cellsN ws).length := by rw [Pl.cellsN_len]; exact hjw
          have HV64 := Lib.hid (HW2.out.lt (j / 64))
          obtain ⟨a, ha⟩ : ∃ a, a = j / 64 := ⟨_, rfl⟩
          have HA2 := Lib.hid ha
          rw [← ha] at hq hql HG HBS hjc HV64
          obtain ⟨v, hv⟩ : ∃ v, v = Pl.gN ws a := ⟨_, rfl⟩
          rw [← hv] at HG HBS HV64
          generalize Pl.gR l k2 = sr at *
          generalize Pl.gC l k2 = sc at *
          unfold Pl.sv at HNk
          simp only at HNk
          clear hc c0 c1 hbm hon hwl hjn hx ha hv hjW hj64 hjw hj hjN
          cases hh : (l.take k2).contains (sr, sc) with
          | true =>
            have HDD := Lib.hid (HD.out (List.contains_iff_mem.1 hh))
            rw [HON.out, hh] at HIS
            clear hh
            go_wp2_with (first
              | (refine Rw.wpList_alloc rfl 23 rfl [.int .i64 0, .int .u8 0] Pl.zSeat ?_; intro w2 K2 b2 z2; have HZ2 := Lib.hid z2; clear z2)
              | (refine Rw.wpList_store_whole rfl 23 _ _ rfl wr2.heap.size rfl [.int .i64 sr, .int .u8 sc] rfl _ _ K2 Pl.iSeat rfl (by intro v hv; simp at hv; rcases hv with rfl | rfl <;> rfl) ?_; intro w3 K3 f3; have b3 : Below wr2.heap.size wr2 w3 := b2.trans (f3.below b2.size (fun k hk => Nat.le_of_eq hk.symm)); have b03 := HBr2.out.trans (b3.mono hzr2); have e0 : w3.cell? ⟨wr2.heap.size, 0, none⟩ = some (.int .i64 sr) := (K3.cell 0).trans rfl; have e1 : w3.cell? ⟨wr2.heap.size, 1, none⟩ = some (.int .u8 sc) := (K3.cell 1).trans rfl; have HNw := Lib.hid (HNk.out w3 b03))
              | (go_at_call 25; refine HNw.out.mono ?_; rintro e w4 ⟨rfl, hb4⟩; have b34 := b3.trans (hb4.mono b3.size); have b04 := b03.trans (hb4.mono b03.size); have HI4 := Lib.hid (HIS.out w4 (HK2.out.below' b34)))
              | (go_at_call 46; refine HI4.out.mono ?_; rintro e w' ⟨rfl, rfl⟩))
            go_ret2
            exact .inr (.inl ⟨HAll.out, HDD.out, rfl, b04⟩)
          | false =>
            have HDD := Lib.hid (HD2.out (fun hm => by rw [List.contains_iff_mem.2 hm] at hh; cases hh))
            rw [HON.out, hh] at HIS
            clear hh
            go_wp2_with (first
              | (refine Rw.wpList_alloc rfl 23 rfl [.int .i64 0, .int .u8 0] Pl.zSeat ?_; intro w2 K2 b2 z2; have HZ2 := Lib.hid z2; clear z2)
              | (refine Rw.wpList_store_whole rfl 23 _ _ rfl wr2.heap.size rfl [.int .i64 sr, .int .u8 sc] rfl _ _ K2 Pl.iSeat rfl (by intro v hv; simp at hv; rcases hv with rfl | rfl <;> rfl) ?_; intro w3 K3 f3; have b3 : Below wr2.heap.size wr2 w3 := b2.trans (f3.below b2.size (fun k hk => Nat.le_of_eq hk.symm)); have b03 := HBr2.out.trans (b3.mono hzr2); have e0 : w3.cell? ⟨wr2.heap.size, 0, none⟩ = some (.int .i64 sr) := (K3.cell 0).trans rfl; have e1 : w3.cell? ⟨wr2.heap.size, 1, none⟩ = some (.int .u8 sc) := (K3.cell 1).trans rfl; have HNw := Lib.hid (HNk.out w3 b03))
              | (go_at_call 25; refine HNw.out.mono ?_; rintro e w4 ⟨rfl, hb4⟩; have b34 := b3.trans (hb4.mono b3.size); have b04 := b03.trans (hb4.mono b03.size); have K64 := HK2.out.below' b34; have HI4 := Lib.hid (HIS.out w4 K64); have l64 : w4.cell? ⟨wr1.heap.size, a, none⟩ = some (.int .u64 v) := (K64.cell a).trans HG.out)
              | (go_at_call 46; refine HI4.out.mono ?_; rintro e w' ⟨rfl, rfl⟩)
              | (refine Rw.wpList_store_one rfl 63 (.tmp 48) (.tmp 47) rfl wr1.heap.size a rfl _ rfl rfl _ _ K64 Pl.iU hjc rfl ?_; intro w5 K5 f5))
            have K6 : Rw.Blk w5 wr1.heap.size 63 ((Pl.cellsN ws).set a (.int .u64 (bits .or .u64 (v : Int) (IntKind.u64.wrap (2 ^ min (IntKind.u64.wrap (bits .and .i64 x 63)).toNat 64))))) := K5
            rw [HX.out, Pl.or_bits j v (by have := HX.out; omega) HV64.out, Pl.cellsN_set] at K6
            exact ⟨⟨k2 + 1, _, by omega, by go_num, K6, HBS.out.cong (fun n _ => (HSN.out n).symm), HDD, b04.trans (f5.below b04.size (fun k hk => by have h1 : k = wr1.heap.size := hk; omega))⟩, by simp [intOf]; omega⟩
        · have hkn2 : k2 = l.length := by omega
          have HND : Hid (l.Nodup) := show List.Nodup _ by have := HN2.out; rwa [hkn2, List.take_length] at this
          have HBW : Hid (Pl.Bw ws W (Pl.bset p l)) := show Pl.Bw _ _ _ by have := HW2.out; rwa [hkn2, List.take_length] at this
          clear hkn2
          have hww := HW.out
          rw [HN.out] at hww
          have HWW := Lib.hid hww
          clear hww
          go_wp2
          go_ret2
          exact .inr (.inr ⟨HAll.out, HND.out, wr1.heap.size, ws, by rw [HWW.out]; rfl, by rw [← HWW.out]; exact HBW.out, HK2.out, hzr, HBr2.out⟩)
end Go.Proofs.YtonfkonjkgalhaaDoor
