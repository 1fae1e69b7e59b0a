/- The walk of PlanBack, where the plan is right. -/
import Derived.Test.YtonfkonjkgalhaaDoorPlBkw
import Derived.Deep.CutRange
namespace Go.Proofs.YtonfkonjkgalhaaDoor
open Go.RowKit Go.WideMaps
set_option linter.unusedVariables false

namespace Pl
theorem PlanIn.below {w w' : World} {r : R} (h : PlanIn w r) (hb : Below w.heap.size w w') : PlanIn w' r := ⟨h.wf, (h.e.below hb (Nat.le_refl _)).more hb.size, (h.b.below hb (Nat.le_refl _)).more hb.size, h.we, h.wb, h.ne, h.nb⟩
theorem seats_len {p : P} (ho : rowsOk p = true) (hl : lettersOk p.lt = true) : (seatsOf p).length ≤ 600 := Nat.le_trans (List.length_filter_le _ _) (all_len hl ho)
end Pl
set_option maxHeartbeats 8000000 in
set_option maxRecDepth 100000 in
theorem back_main (r : Pl.R) (w : World) (hp : Pl.PlanIn w r) (hf : Pl.fewP r.p = true) (hr : Pl.right r.p = true) (AI : Option Addr) (pk : List Int) (ci : Nat) (hI : Pl.Ints w w.heap.size AI pk) (hwf : ∀ n ∈ pk, (Lit.int .i64 n).wf = true) (hpk : pk.length ≤ 700)
    (AB : Option Addr) (bs : List Nat) (cb : Nat) (hN : Pl.Nums w w.heap.size AB bs) (h64 : ∀ j, Pl.gN bs j < 18446744073709551616) (hbl : bs.length ≤ 9223372036854775807) :
    Calls Tryd.prog 7 #[Pl.pv r, .slice AI pk.length ci, .slice AB bs.length cb] w fun e w' => e = .returned (.bool true) ∧ Below w.heap.size w w' := by
  obtain ⟨ho, hl⟩ := Pl.right_parts hr
  have HO := Lib.hid ho
  have HL := Lib.hid hl
  have HFW := Lib.hid (fun W => few_any r W)
  rw [hf] at HFW
  have HMD := Lib.hid (fun (W : World) (hb : Below w.heap.size w W) => made_right r 0 W (hp.below hb) hf hr)
  have HST := Lib.hid (fun (base g : Nat) (W : World) (hm : Pl.MapAt W base g r.p (Pl.pls r.p)) => seats_any r.p base g W ho hl hm)
  have HBT := Lib.hid (fun (l : List Pl.S) (n cap B base g : Nat) (A : Option Addr) (W : World) => bits_yes r.p l n cap B base g A W ho hl)
  have HOY := Lib.hid (fun (ws : List Nat) (n cap B base g : Nat) (A : Option Addr) (W : World) => of_yes r.p ws n cap B base g A W ho hl)
  have HON := Lib.hid (fun (ws : List Nat) (cap B base g : Nat) (A : Option Addr) (W : World) => of_no r.p ws cap B base g A W ho hl)
  have hsn := Pl.seats_nodup hl
  have hsl := Pl.seats_len ho hl
  have HSN := Lib.hid hsn
  have HSH : Hid (∀ s ∈ Pl.seatsOf r.p, Pl.hasS r.p s = true) := fun s hs => Pl.seats_mem.1 hs
  have HSW : Hid (∀ s ∈ Pl.seatsOf r.p, Pl.WS s) := fun s hs => Pl.all_WS ho (Pl.hasS_mem (Pl.seats_mem.1 hs))
  have HMM : Hid (∀ (n : Nat) (x : World), n ≤ 1000 → (Instr.makeSlice 61 (.int .i64 n) (.int .i64 n)).run Tryd.prog x = .ok (.slice (some ⟨x.heap.size, 0, none⟩) n n) (x.alloc (.cells (Pl.cellsB (List.replicate n false)).toArray 4))) := fun n x hn => by
    rw [← Pl.falses_made]
    exact run_make_row' 61 4 (.bool false) 1 Tryd.underlying61 Pl.infoB rfl .i64 .i64 n (by omega) (by omega) x
  have HWF : Hid (∀ k, k < pk.length → -9223372036854775808 ≤ Pl.gI pk k ∧ Pl.gI pk k ≤ 9223372036854775807) := fun k hk => by
    obtain ⟨a, b⟩ := bounds_i64 (hwf pk[k] (List.getElem_mem hk))
    rw [Pl.gI_get _ _ hk] at a b
    exact ⟨a, by omega⟩
  have HI := Lib.hid hI
  have HNM := Lib.hid hN
  have H64 := Lib.hid h64
  have HBL := Lib.hid hbl
  have e0 : Pl.pv r = .agg (Pl.enc r).toArray := rfl
  rw [e0] at HFW HMD ⊢
  clear e0 hp hf hr hI hwf hN h64 ho hl hsn
  obtain ⟨sl, hsl2⟩ : ∃ sl, sl = Pl.seatsOf r.p := ⟨_, rfl⟩
  have HSL := Lib.hid hsl2
  rw [← hsl2] at HST HSN HSH HSW hsl
  clear hsl2
  go_enter Tryd.func7, Tryd.ntmps7
  go_wp2_with (first
    | (refine Rw.wpList_box rfl 32 _ rfl (Pl.enc r) rfl ?_; intro w1 K1 b1 z1; have HB1 := Lib.hid b1; have HK1 := Lib.hid K1; clear z1)
    | (go_at_call 9; refine (awake_any _).mono ?_; rintro e w2 ⟨rfl, hb2⟩; have HB2 := Lib.hid (HB1.out.trans (hb2.mono HB1.out.size)); have HK2 := Lib.hid (HK1.out.below' hb2); clear hb2)
    | (refine wpList_load_mid rfl 32 _ rfl w.heap.size 0 rfl (Pl.enc r) _ HK3.out.range Pl.uP Pl.rP Pl.iP ?_)
    | (refine wpList_load_mid rfl 32 _ rfl w.heap.size 0 rfl (Pl.enc r) _ HK2.out.range Pl.uP Pl.rP Pl.iP ?_)
    | (go_at_call 14; refine (HFW.out _).mono ?_; rintro e w3 ⟨rfl, hb3⟩; have HB3 := Lib.hid (HB2.out.trans (hb3.mono HB2.out.size)); have HK3 := Lib.hid (HK2.out.below' hb3); clear hb3)
    | (go_at_call 18; refine (HMD.out w3 HB3.out).mono ?_; rintro e w4 ⟨g, rfl, hm4, hb4⟩; have HB4 := Lib.hid (HB3.out.trans (hb4.mono HB3.out.size)); have HM4 := Lib.hid (hm4.low HB3.out.size); clear hb4 hm4)
    | (go_at_call 20; refine (HST.out _ g w4 HM4.out).mono ?_; rintro e w5 ⟨A5, c5, rfl, hO5, hb5⟩; have HM5 := Lib.hid (HM4.out.below hb5); have HB5 := Lib.hid (HB4.out.trans (hb5.mono HB4.out.size)); have HO5 := Lib.hid hO5; have hmk := HMM.out sl.length w5 (by omega); clear hb5 hO5))
  obtain ⟨w6, e6⟩ : ∃ w6, w6 = w5.alloc (.cells (Pl.cellsB (List.replicate sl.length false)).toArray 4) := ⟨_, rfl⟩
  have HT6 : Hid (Rw.Blk w6 w5.heap.size 4 (Pl.cellsB (List.replicate sl.length false))) := show Rw.Blk _ _ _ _ by rw [e6]; exact Rw.Blk.made w5 4 _
  have HB56 : Hid (Below w5.heap.size w5 w6) := show Below _ _ _ by rw [e6]; exact (Below.refl _ _).alloc (Nat.le_refl _) _
  rw [← e6]
  clear e6 hmk HB1 HK1 HB2 HK2 HB3 HK3 HB4 HM4 HMM HFW HMD HST
  have HOS : Hid (Pl.OwnS w5 w4.heap.size (.slice A5 sl.length c5) sl) := HO5
  clear HO5
  have h45 : w.heap.size ≤ w5.heap.size := HB5.out.size
  go_loopw [10, 12] (fun lv i wr => ∃ (k : Nat) (l : List Pl.S) (B : Option Addr) (c : Nat) (tk : List Bool), k ≤ pk.length ∧ i = .int .i64 k ∧ lv = .slice B l.length c ∧ l.length ≤ k ∧ Hid (Pl.OwnS wr w5.heap.size (.slice B l.length c) l) ∧ Hid (Pl.Tk sl l tk) ∧ Hid (Rw.Blk wr w5.heap.size 4 (Pl.cellsB tk)) ∧ Hid (Below w5.heap.size w5 wr)) (fun _ i _ => pk.length - (intOf i).toNat)
  case atStart => exact ⟨0, [], none, 0, _, by omega, rfl, rfl, by simp, Pl.OwnS.nil _ _, Pl.Tk.zero sl, HT6, HB56⟩
  case round =>
    obtain ⟨wa, ea⟩ : ∃ x, x = wr := ⟨_, rfl⟩
    subst ea
    obtain ⟨k, l, B, c, tk, hk, rfl, rfl, hlk, HL1, HTk, HTB, HBa⟩ := hrel
    have hza := HBa.out.size
    go_upto_region 12 with (fail)
    go_cut [54] from 46 to 78 (fun s54 wx => ∃ q : Bool, s54 = .bool q ∧ Hid (q = decide (k < pk.length ∧ 0 < sl.length)) ∧ wx = wa)
    case first =>
      by_cases hlt : k < pk.length
      · by_cases hn0 : 0 < sl.length
        · go_wp2
          go_meet
          exact ⟨true, rfl, (decide_eq_true ⟨hlt, hn0⟩).symm, rfl⟩
        · go_wp2
          go_meet
          exact ⟨false, rfl, (decide_eq_false (fun h => hn0 h.2)).symm, rfl⟩
      · go_wp2
        go_meet
        exact ⟨false, rfl, (decide_eq_false (fun h => hlt h.1)).symm, rfl⟩
    case rest =>
      obtain ⟨q, rfl, HQ, ew⟩ := hcut
      subst ew
      cases q with
      | true =>
        obtain ⟨hlt, hn0⟩ := of_decide_eq_true HQ.out.symm
        obtain ⟨b, off, rfl, hb, hcI⟩ := HI.out (by omega)
        have HBw : Hid (Below w.heap.size w wc) := HB5.out.trans (HBa.out.mono h45)
        have q0 : wc.cell? ⟨b, off + k, none⟩ = some (.int .i64 (Pl.gI pk k)) := (HBw.out.cell (p := ⟨b, off + k, none⟩) hb).trans (hcI k hlt)
        obtain ⟨f0, f1⟩ := HWF.out k hlt
        have HPL := Lib.hid (place_any (Pl.gI pk k) sl.length wc f0 f1 hn0 (by omega))
        clear hcI f0 f1
        go_upto_if 68 with (first | (go_at_call 29; refine HPL.out.mono ?_; rintro e w' ⟨j, hj, rfl, rfl⟩; obtain ⟨bq, hbq⟩ : ∃ b, b = tk.getD j false := ⟨_, rfl⟩; have ct : wc.cell? ⟨w5.heap.size, j, none⟩ = some (.bool bq) := (by rw [hbq]; exact (HTB.out.cell j).trans (Pl.cellsB_get tk j (by rw [HTk.out.len]; exact hj))); have HBQ := Lib.hid hbq; clear hbq))
        have HAD := Lib.hid (fun hf => HTk.out.add HSN.out hj hf)
        have hjt : j < (Pl.cellsB tk).length := by rw [Pl.cellsB_len, HTk.out.len]; exact hj
        obtain ⟨b5, rfl, hb5, hbb5, s0, s1⟩ := HOS.out.at j hj
        have HS0 := Lib.hid s0
        have HS1 := Lib.hid s1
        clear s0 s1
        generalize Pl.gR sl j = sr at *
        generalize Pl.gC sl j = sc at *
        have hl6 : l.length < 100000 := by omega
        cases bq with
        | true =>
          go_wp2
          go_roundw
          case rel => exact ⟨k + 1, l, B, c, tk, by omega, by go_num, rfl, by omega, HL1, HTk, HTB, HBa⟩
          case measure => simp [intOf]; omega
        | false =>
          have HA2 := Lib.hid (HAD.out HBQ.out.symm)
          clear HBQ HAD
          go_wp2_with (first
            | (refine Rw.wpList_store_one rfl 4 (.tmp 71) _ rfl w5.heap.size j rfl (.bool true) rfl rfl _ _ HTB.out Pl.iB hjt rfl ?_; intro w7 K7 f7; have hb7 : Below w5.heap.size wc w7 := f7.below hza (fun x hx => Nat.le_of_eq hx.symm); have hb57 := HBa.out.trans hb7; have HK7 : Hid (Rw.Blk w7 w5.heap.size 4 (Pl.cellsB (tk.set j true))) := show Rw.Blk _ _ _ _ by rw [← Pl.cellsB_set]; exact K7
               have HL7 : Hid (Pl.OwnS w7 w5.heap.size (.slice B l.length c) l) := HL1.out.kept (fun gg cur hg => f7.block gg (Rw.lt_of_some hg) (fun e => by have h1 := HTB.out; have e2 : gg = w5.heap.size := e; subst e2; unfold Rw.Blk at h1; rw [h1] at hg; injection hg with hg; injection hg with _ hg; exact absurd hg (by decide)))
               have t0 : w7.cell? ⟨b5, j * 2, none⟩ = some (.int .i64 sr) := (hb57.cell (p := ⟨b5, j * 2, none⟩) hb5).trans HS0.out
               have t1 : w7.cell? ⟨b5, j * 2 + 1, none⟩ = some (.int .u8 sc) := (hb57.cell (p := ⟨b5, j * 2 + 1, none⟩) hb5).trans HS1.out
               have ba : Below w7.heap.size w7 (w7.alloc (.cells #[.int .i64 sr, .int .u8 sc] 23)) := (Below.refl _ _).alloc (Nat.le_refl _) _
               have HLa := Lib.hid (HL7.out.below ba)
               have HKa := Lib.hid (HK7.out.below' ba)
               have hba := Nat.le_trans hb57.size ba.size
               have hb58 := hb57.trans (ba.mono hb57.size)
               have HSc := Lib.hid (Pl.Sc.new (sr, sc) w7)
               clear K7 f7)
            | (refine Rw.wpList_appendS rfl (.tmp 72) (.tmp 77) rfl w5.heap.size (.slice B l.length c) l (sr, sc) HLa.out rfl w7.heap.size rfl HSc.out hl6 hba (l.length + 1) rfl ?_; intro A8 c8 w8 h81 h82 h83))
          have HT8 : Hid (Rw.Blk w8 w5.heap.size 4 (Pl.cellsB (tk.set j true))) := HKa.out.kept (h83.out _ HKa.out.lt (fun e => by
            obtain ⟨_, _, cur, hcur⟩ := HLa.out.blk _ e
            have h1 := HKa.out
            unfold Rw.Blk at h1
            rw [h1] at hcur
            injection hcur with hcur
            injection hcur with _ hcur
            exact absurd hcur (by decide)))
          go_roundw
          case rel => exact ⟨k + 1, l ++ [(sr, sc)], A8, c8, tk.set j true, by omega, by go_num, by simp, by simp; omega, by simpa using h81, HA2, HT8, hb58.trans h82.out⟩
          case measure => simp [intOf]; omega
      | false =>
        have HLo : Hid (l.all (Pl.hasS r.p) = true) := show _ = _ by rw [List.all_eq_true]; exact fun s hs => HSH.out s (HTk.out.mem s hs)
        have HLn : Hid l.Nodup := HTk.out.nod
        have HLW : Hid (∀ s ∈ l, Pl.WS s) := fun s hs => HSW.out s (HTk.out.mem s hs)
        have HTFL : Hid (∀ i, i < sl.length → (sl.take (i + 1)).filter (fun s => l.contains s) = (sl.take i).filter (fun s => l.contains s) ++ (if l.contains (Pl.gR sl i, Pl.gC sl i) then [(Pl.gR sl i, Pl.gC sl i)] else [])) := fun i hi => Pl.take_filter (f := fun s => l.contains s) hi
        have HEQ : Hid (∀ ws, Pl.Bw ws (((Pl.all r.p).length + 63) / 64) (Pl.bset r.p l) → Pl.ofL r.p ws (64 * ws.length) = sl.filter (fun s => l.contains s)) := fun ws hb => by
          rw [Pl.of_bits HL.out (fun s hs => Pl.hasS_mem (HSH.out s (HTk.out.mem s hs))) hb, Pl.filter_seats HLo.out, HSL.out]
        have HAL : Hid ((Pl.all r.p).length ≤ 600) := Pl.all_len HL.out HO.out
        have hll6 : l.length ≤ 1000000 := by omega
        obtain ⟨w9, e9⟩ : ∃ x, x = wc := ⟨_, rfl⟩
        subst e9
        have HM9 : Hid (Pl.MapAt w9 w.heap.size g r.p (Pl.pls r.p)) := HM5.out.kept (fun x _ hx => HBa.out.block x hx)
        have HB9 := Lib.hid (HB5.out.trans (HBa.out.mono h45))
        have HNB : Hid (∀ (wb W : World), Below w9.heap.size w9 wb → Below wb.heap.size wb W → Pl.Nums W W.heap.size AB bs) := fun wb W h1 h2 => (HNM.out.kept' (HB9.out.trans ((h1.trans (h2.mono h1.size)).mono HB9.out.size)))
        have HNB2 : Hid (∀ (w1 w2 : World), Pl.Nums w1 w1.heap.size AB bs → Below w1.heap.size w1 w2 → Pl.Nums w2 w2.heap.size AB bs) := fun w1 w2 h1 h2 => h1.kept' h2
        clear HI HWF
        go_wp2
        go_loopw [14, 15] (fun lv i wr => ∃ (i2 : Nat) (lw : List Pl.S) (C : Option Addr) (c2 : Nat), i2 ≤ sl.length ∧ i = .int .i64 i2 ∧ lv = .slice C lw.length c2 ∧ lw.length ≤ i2 ∧ Hid (Pl.OwnS wr w9.heap.size (.slice C lw.length c2) lw) ∧ Hid ((sl.take i2).filter (fun s => l.contains s) = lw) ∧ Hid (Below w9.heap.size w9 wr)) (fun _ i _ => sl.length - (intOf i).toNat)
        case atStart => exact ⟨0, [], none, 0, by omega, rfl, rfl, by simp, Pl.OwnS.nil _ _, show _ = _ by simp, Below.refl _ _⟩
        case round =>
          obtain ⟨wb, eb⟩ : ∃ x, x = wr := ⟨_, rfl⟩
          subst eb
          obtain ⟨i2, lw, C, c2, hi2, rfl, rfl, hlw, HWb, HFl, HBb⟩ := hrel
          have hzb := HBb.out.size
          by_cases hlt2 : i2 < sl.length
          · obtain ⟨bq, hbq⟩ : ∃ b, b = l.contains (Pl.gR sl i2, Pl.gC sl i2) := ⟨_, rfl⟩
            have ct : wb.cell? ⟨w5.heap.size, i2, none⟩ = some (.bool bq) := by
              rw [hbq, ← HTk.out.is i2 hlt2]
              exact ((HTB.out.below' HBb.out).cell i2).trans (Pl.cellsB_get tk i2 (by rw [HTk.out.len]; exact hlt2))
            have HTF := HTFL.out i2 hlt2
            rw [← hbq, HFl.out] at HTF
            obtain ⟨b5, rfl, hb5, hbb5, s0, s1⟩ := HOS.out.at i2 hlt2
            have hB59 : Below w5.heap.size w5 wb := HBa.out.trans (HBb.out.mono hza)
            have t0 : wb.cell? ⟨b5, i2 * 2, none⟩ = some (.int .i64 (Pl.gR sl i2)) := (hB59.cell (p := ⟨b5, i2 * 2, none⟩) hb5).trans s0
            have t1 : wb.cell? ⟨b5, i2 * 2 + 1, none⟩ = some (.int .u8 (Pl.gC sl i2)) := (hB59.cell (p := ⟨b5, i2 * 2 + 1, none⟩) hb5).trans s1
            clear s0 s1 hB59 hbq
            have HTF2 := Lib.hid HTF
            clear HTF
            generalize Pl.gR sl i2 = sr at *
            generalize Pl.gC sl i2 = sc at *
            have hl6 : lw.length < 100000 := by omega
            cases bq with
            | false =>
              have HF2 : Hid ((sl.take (i2 + 1)).filter (fun s => l.contains s) = lw) := show _ = _ by rw [HTF2.out]; simp
              go_wp2
              go_roundw
              case rel => exact ⟨i2 + 1, lw, C, c2, by omega, by go_num, rfl, by omega, HWb, HF2, HBb⟩
              case measure => simp [intOf]; omega
            | true =>
              have HF2 : Hid ((sl.take (i2 + 1)).filter (fun s => l.contains s) = lw ++ [(sr, sc)]) := show _ = _ by rw [HTF2.out]; simp
              have ba : Below wb.heap.size wb (wb.alloc (.cells #[.int .i64 sr, .int .u8 sc] 23)) := (Below.refl _ _).alloc (Nat.le_refl _) _
              have HLa := Lib.hid (HWb.out.below ba)
              have hba := Nat.le_trans hzb ba.size
              have HB8a := Lib.hid (HBb.out.trans (ba.mono hzb))
              have HSc := Lib.hid (Pl.Sc.new (sr, sc) wb)
              clear ba
              go_wp2_with (first
                | (refine Rw.wpList_appendS rfl (.tmp 89) (.tmp 94) rfl w9.heap.size (.slice C lw.length c2) lw (sr, sc) HLa.out rfl wb.heap.size rfl HSc.out hl6 hba (lw.length + 1) rfl ?_; intro A8 c8 w8 h81 h82 h83))
              go_roundw
              case rel => exact ⟨i2 + 1, lw ++ [(sr, sc)], A8, c8, by omega, by go_num, by simp, by simp; omega, by simpa using h81, HF2, HB8a.out.trans h82.out⟩
              case measure => simp [intOf]; omega
          · have hin : i2 = sl.length := by omega
            have HLWq : Hid (sl.filter (fun s => l.contains s) = lw) := show _ = _ by have := HFl.out; rwa [hin, List.take_length] at this
            have HEQ2 : Hid (∀ ws, Pl.Bw ws (((Pl.all r.p).length + 63) / 64) (Pl.bset r.p l) → Pl.ofL r.p ws (64 * ws.length) = lw) := fun ws hb => (HEQ.out ws hb).trans HLWq.out
            clear HEQ
            have HEQ := HEQ2
            have hlw6 : lw.length ≤ 1000000 := by omega
            have HMb := Lib.hid (HM9.out.below HBb.out)
            have HLb := Lib.hid (HL1.out.below HBb.out)
            have HNBc : Hid (∀ W : World, Below wb.heap.size wb W → Pl.Nums W W.heap.size AB bs) := fun W hW => HNB.out wb W HBb.out hW
            clear HNB
            have HNB := HNBc
            clear HTFL HFl hin HEQ2 HNBc HTB HTk HOS
            by_cases hgood : bs.length = ((Pl.all r.p).length + 63) / 64 ∧ ∀ n, n < 64 * bs.length → Pl.on bs n = true → Pl.okN r.p n = true
            · have HGD := Lib.hid hgood
              clear hgood
              have HB2 : Hid (∀ (W : World) (c base : Nat) (A : Option Addr), Pl.MapAt W base g r.p (Pl.pls r.p) → Pl.Sts W W.heap.size A (Pl.ofL r.p bs (64 * bs.length)) → Calls Tryd.prog 30 #[.pointer (some ⟨g, 0, none⟩), .slice A (Pl.ofL r.p bs (64 * bs.length)).length c] W (Pl.BitsZ bs W)) := fun W c base A h1 h2 => by
                have ha := Pl.ofL_has HGD.out.2
                refine (HBT.out (Pl.ofL r.p bs (64 * bs.length)) _ c W.heap.size base g A W h1 h2 (Nat.le_refl _) ?_ ?_ rfl ha (Pl.ofL_nodup HL.out HGD.out.2)).mono fun e w' h => ?_
                · have := Pl.ofL_len r.p bs (64 * bs.length); have := HGD.out.1; have := HAL.out; omega
                · intro s hs
                  rw [List.all_eq_true] at ha
                  exact Pl.all_WS HO.out (Pl.hasS_mem (ha s hs))
                · obtain ⟨b, ws, h3, h4, h5, h6⟩ := h
                  have := h4.ext (Pl.bw_self HL.out H64.out HGD.out.1 HGD.out.2) (fun _ _ => rfl)
                  subst this
                  exact ⟨b, by rw [h3, h4.len], h5, h6⟩
              go_wp2_with (first
                | (go_at_call 30; have hgd := hmk13; have hX : Hid (Calls Tryd.prog 30 #[.pointer (some ⟨g, 0, none⟩), .slice A13 (Pl.ofL r.p bs (64 * bs.length)).length c13] w13 (Pl.BitsZ bs w13)) := HB2.out w13 c13 _ A13 HM13.out HO13.out.sts2; refine hX.out.mono ?_; rintro e w14 ⟨b14, rfl, hK14, hb14⟩; have HB14 := Lib.hid hb14; have HN14 : Hid (Pl.Nums w14 w14.heap.size AB bs) := HNB2.out w12 w14 HN12.out (HB13.out.trans (hb14.mono HB13.out.size)); have HK14 := Lib.hid hK14; clear hb14 hK14)
                | (go_at_call 33; have hgd := hmk12; refine (HOY.out bs bs.length cb w12.heap.size _ g AB w12 HM12.out HN12.out (Nat.le_refl _) H64.out HBL.out rfl HGD.out).mono ?_; rintro e w13 ⟨A13, c13, rfl, hO13, hb13⟩; have HO13 := Lib.hid hO13; have HM13 := Lib.hid (HM12.out.below hb13); have HB13 := Lib.hid hb13; have hmk13 := HM13; clear hb13 hO13)
                | (go_at_call 32; have hX : Hid (Calls Tryd.prog 32 #[.slice (some ⟨b14, 0, none⟩) bs.length bs.length, .slice AB bs.length cb] w14 (Pl.QuietB true w14)) := (by have hq := lwords_any (some ⟨b14, 0, none⟩) AB bs bs bs.length cb _ _ w14 (Pl.Nums.blk HK14.out) HN14.out HBL.out HBL.out; rwa [decide_eq_true rfl] at hq); refine hX.out.mono ?_; rintro e w15 ⟨rfl, hb15⟩)
                | (go_at_call 30; have hX : Hid (Calls Tryd.prog 30 #[.pointer (some ⟨g, 0, none⟩), .slice B l.length c] wb (Pl.BitsY r.p l wb)) := HBT.out l l.length c wb.heap.size _ g B wb HMb.out HLb.out.sts2 (Nat.le_refl _) hll6 HLW.out rfl HLo.out HLn.out; refine hX.out.mono ?_; rintro e w10 ⟨b64, ws, rfl, hbw, hK10, hb10⟩; have HBW := Lib.hid hbw; have HK10 := Lib.hid hK10; have HB10 := Lib.hid hb10; have HFL : Hid (Pl.ofL r.p ws (64 * ws.length) = lw) := show _ = _ from HEQ.out ws hbw; have HM10 := Lib.hid (HMb.out.below hb10); have HW10 := Lib.hid (HWb.out.below hb10); clear hbw hK10 hb10)
                | (go_at_call 33; have hX : Hid (Calls Tryd.prog 33 #[.pointer (some ⟨g, 0, none⟩), .slice (some ⟨b64, 0, none⟩) (((Pl.all r.p).length + 63) / 64) (((Pl.all r.p).length + 63) / 64)] w10 (Pl.OfZ lw w10)) := (by have hq := HOY.out ws _ (((Pl.all r.p).length + 63) / 64) w10.heap.size _ g (some ⟨b64, 0, none⟩) w10 HM10.out (Pl.Nums.blk HK10.out) (Nat.le_refl _) HBW.out.lt (by have := HBW.out.len; have := HAL.out; omega) HBW.out.len.symm ⟨HBW.out.len, Pl.bits_good HLo.out HBW.out HL.out⟩; unfold Pl.OfY at hq; rw [HFL.out] at hq; exact hq); refine hX.out.mono ?_; rintro e w11 ⟨A11, c11, rfl, hO11, hb11⟩; have HO11 := Lib.hid hO11; have HM11 := Lib.hid (HM10.out.below hb11); have HW11 := Lib.hid (HW10.out.below hb11); have HB11 := Lib.hid hb11; clear hO11 hb11)
                | (go_at_call 19; have hX : Hid (Calls Tryd.prog 19 #[.slice A11 lw.length c11, .slice C lw.length c2] w11 (Pl.QuietB true w11)) := (by have hq := same_any A11 C lw lw c11 c2 _ _ w11 HO11.out.sts2 HW11.out.sts2 hlw6 hlw6; rwa [decide_eq_true rfl] at hq); refine hX.out.mono ?_; rintro e w12 ⟨rfl, hb12⟩; have HM12 := Lib.hid (HM11.out.below hb12); have HB12 := Lib.hid hb12; have HN12 : Hid (Pl.Nums w12 w12.heap.size AB bs) := HNB.out w12 (HB10.out.trans ((HB11.out.mono HB10.out.size).trans (hb12.mono (Nat.le_trans HB10.out.size HB11.out.size)))); have hmk12 := HM12; clear hb12))
              go_ret
              have g1 := HB10.out.trans ((HB11.out.mono HB10.out.size).trans (HB12.out.mono (Nat.le_trans HB10.out.size HB11.out.size)))
              have g2 := g1.trans ((HB13.out.trans ((HB14.out.mono HB13.out.size).trans (hb15.mono (Nat.le_trans HB13.out.size HB14.out.size)))).mono g1.size)
              exact ⟨rfl, HB9.out.trans ((HBb.out.trans (g2.mono hzb)).mono HB9.out.size)⟩
            · go_wp2_with (first
                | (go_at_call 33; have hgd := hmk12; refine (HON.out bs cb w12.heap.size _ g AB w12 HM12.out HN12.out (Nat.le_refl _) H64.out HBL.out hgood).mono ?_; rintro e w13 ⟨cz, hcz, rfl, hb13⟩; have HB13 := Lib.hid hb13; clear hb13)
                | (go_at_call 30; have hX : Hid (Calls Tryd.prog 30 #[.pointer (some ⟨g, 0, none⟩), .slice B l.length c] wb (Pl.BitsY r.p l wb)) := HBT.out l l.length c wb.heap.size _ g B wb HMb.out HLb.out.sts2 (Nat.le_refl _) hll6 HLW.out rfl HLo.out HLn.out; refine hX.out.mono ?_; rintro e w10 ⟨b64, ws, rfl, hbw, hK10, hb10⟩; have HBW := Lib.hid hbw; have HK10 := Lib.hid hK10; have HB10 := Lib.hid hb10; have HFL : Hid (Pl.ofL r.p ws (64 * ws.length) = lw) := show _ = _ from HEQ.out ws hbw; have HM10 := Lib.hid (HMb.out.below hb10); have HW10 := Lib.hid (HWb.out.below hb10); clear hbw hK10 hb10)
                | (go_at_call 33; have hX : Hid (Calls Tryd.prog 33 #[.pointer (some ⟨g, 0, none⟩), .slice (some ⟨b64, 0, none⟩) (((Pl.all r.p).length + 63) / 64) (((Pl.all r.p).length + 63) / 64)] w10 (Pl.OfZ lw w10)) := (by have hq := HOY.out ws _ (((Pl.all r.p).length + 63) / 64) w10.heap.size _ g (some ⟨b64, 0, none⟩) w10 HM10.out (Pl.Nums.blk HK10.out) (Nat.le_refl _) HBW.out.lt (by have := HBW.out.len; have := HAL.out; omega) HBW.out.len.symm ⟨HBW.out.len, Pl.bits_good HLo.out HBW.out HL.out⟩; unfold Pl.OfY at hq; rw [HFL.out] at hq; exact hq); refine hX.out.mono ?_; rintro e w11 ⟨A11, c11, rfl, hO11, hb11⟩; have HO11 := Lib.hid hO11; have HM11 := Lib.hid (HM10.out.below hb11); have HW11 := Lib.hid (HW10.out.below hb11); have HB11 := Lib.hid hb11; clear hO11 hb11)
                | (go_at_call 19; have hX : Hid (Calls Tryd.prog 19 #[.slice A11 lw.length c11, .slice C lw.length c2] w11 (Pl.QuietB true w11)) := (by have hq := same_any A11 C lw lw c11 c2 _ _ w11 HO11.out.sts2 HW11.out.sts2 hlw6 hlw6; rwa [decide_eq_true rfl] at hq); refine hX.out.mono ?_; rintro e w12 ⟨rfl, hb12⟩; have HM12 := Lib.hid (HM11.out.below hb12); have HB12 := Lib.hid hb12; have HN12 : Hid (Pl.Nums w12 w12.heap.size AB bs) := HNB.out w12 (HB10.out.trans ((HB11.out.mono HB10.out.size).trans (hb12.mono (Nat.le_trans HB10.out.size HB11.out.size)))); have hmk12 := HM12; clear hb12))
              go_ret
              have g1 := HB10.out.trans ((HB11.out.mono HB10.out.size).trans (HB12.out.mono (Nat.le_trans HB10.out.size HB11.out.size)))
              have g2 := g1.trans (HB13.out.mono g1.size)
              exact ⟨rfl, HB9.out.trans ((HBb.out.trans (g2.mono hzb)).mono HB9.out.size)⟩
end Go.Proofs.YtonfkonjkgalhaaDoor
