/- Contract of the document's Seats. -/
import Derived.Test.YtonfkonjkgalhaaDoorPlRhs
import Derived.Deep.RegionHeld3
namespace Go.Proofs.YtonfkonjkgalhaaDoor
open Go.RowKit Go.WideMaps
set_option linter.unusedVariables false

namespace Pl
theorem hasS_of {p : P} {s : S} (h : s ∈ all p) : hasS p s = decide (ix p.bl s < 0) := by
  rw [ix_neg]
  have : (all p).contains s = true := by simpa using h
  unfold hasS
  rw [this]
  rfl
end Pl
set_option maxHeartbeats 4000000 in
set_option maxRecDepth 20000 in
theorem rseats_any (r : Pl.R) (B : Nat) (w : World) (hw : Pl.Wf r) (hbl : Pl.Sts w B r.bA r.p.bl) (hB : B ≤ w.heap.size) (ho : Pl.rowsOk r.p = true) (hl : Pl.lettersOk r.p.lt = true) :
    Calls Tryd.prog 21 #[Pl.pv r] w (Pl.SeatsR (Pl.seatsOf r.p) w) := by
  have HPL := Lib.hid (fun W => rplaces_any r W hw.s ho hl)
  have hln := Pl.all_len hl ho
  have HAB := Lib.hid (fun (s : Pl.S) (W : World) (hb : Below w.heap.size w W) => at_any r.bA r.p.bl r.bc B s W (hbl.below hb hB) (Nat.le_trans hB hb.size) hw.b)
  have HFA : Hid (∀ k, k < (Pl.all r.p).length → Pl.hasS r.p (Pl.gR (Pl.all r.p) k, Pl.gC (Pl.all r.p) k) = decide (Pl.ix r.p.bl (Pl.gR (Pl.all r.p) k, Pl.gC (Pl.all r.p) k) < 0)) := fun k hk => Pl.hasS_of (by rw [← Pl.gS _ _ hk]; exact List.getElem_mem hk)
  have HTF : Hid (∀ k, k < (Pl.all r.p).length → ((Pl.all r.p).take (k + 1)).filter (Pl.hasS r.p) = ((Pl.all r.p).take k).filter (Pl.hasS r.p) ++ (if Pl.hasS r.p (Pl.gR (Pl.all r.p) k, Pl.gC (Pl.all r.p) k) then [(Pl.gR (Pl.all r.p) k, Pl.gC (Pl.all r.p) k)] else [])) := fun k hk => Pl.take_filter hk
  have HEN : Hid (((Pl.all r.p).take (Pl.all r.p).length).filter (Pl.hasS r.p) = Pl.seatsOf r.p) := show _ = _ by rw [List.take_length]; rfl
  have HLE : Hid (∀ k, (((Pl.all r.p).take k).filter (Pl.hasS r.p)).length ≤ 600) := fun k => Nat.le_trans (List.length_filter_le _ _) (Nat.le_trans (List.length_take_le' _ _) hln)
  have e0 : Pl.pv r = .agg (Pl.enc r).toArray := rfl
  rw [e0] at HPL ⊢
  clear e0 hbl hw ho hl
  unfold Pl.AtR at HAB
  generalize Pl.seatsOf r.p = res at *
  generalize Pl.all r.p = al at *
  generalize Pl.hasS r.p = hs at *
  go_enter Tryd.func21, Tryd.ntmps21
  go_wp2_with (first
    | (refine Rw.wpList_box rfl 32 _ rfl (Pl.enc r) rfl ?_; intro w1 K1 b1 z1; have HB1 := Lib.hid b1; have HK1 := Lib.hid K1; clear z1 K1 b1)
    | (refine wpList_load_mid rfl 32 _ rfl w.heap.size 0 rfl (Pl.enc r) _ HK1.out.range Pl.uP Pl.rP Pl.iP ?_)
    | (go_at_call 22; refine (HPL.out w1).mono ?_; rintro e w3 ⟨A5, c5, rfl, hO5, hb5⟩; obtain ⟨A6, c6, e6, _, hS5⟩ := hO5.sts; have HS5 := Lib.hid hS5; have HB3 := Lib.hid (HB1.out.trans (hb5.mono HB1.out.size)); have HK3 := Lib.hid (HK1.out.below' hb5); injection e6 with e6 _ e7; subst e6; subst e7; clear hO5 hb5 hS5))
  have h03 := HB3.out.size
  go_loopw [4, 5] (fun lv i wr => ∃ (k : Nat) (ls : List Pl.S) (C : Option Addr) (c : Nat), k ≤ al.length ∧ i = .int .i64 k ∧ lv = .slice C ls.length c ∧ Hid ((al.take k).filter hs = ls) ∧ Hid (Pl.OwnS wr w3.heap.size (.slice C ls.length c) ls) ∧ Hid (Below w3.heap.size w3 wr)) (fun _ i _ => al.length - (intOf i).toNat)
  case atStart => exact ⟨0, [], none, 0, by omega, rfl, rfl, show _ = _ by simp, Pl.OwnS.nil _ _, Below.refl _ _⟩
  case round =>
    obtain ⟨wa, ea⟩ : ∃ x, x = wr := ⟨_, rfl⟩
    subst ea
    obtain ⟨k, ls, C, c, hk, rfl, rfl, HF, HO, HBa⟩ := hrel
    have hza := HBa.out.size
    have HBw := Lib.hid (HB3.out.trans (HBa.out.mono h03))
    have HKa := Lib.hid (HK3.out.below' HBa.out)
    by_cases hlt : k < al.length
    · obtain ⟨b5, off, eA, hb5, hc⟩ := HS5.out (by omega)
      subst eA
      have hb5a : b5 < wa.heap.size := by omega
      have HSR := Lib.hid ((HBa.out.cell (p := ⟨b5, off + k * 2, none⟩) hb5).trans (hc k hlt).1)
      have HSC := Lib.hid ((HBa.out.cell (p := ⟨b5, off + k * 2 + 1, none⟩) hb5).trans (hc k hlt).2)
      have HABk := Lib.hid (fun W hb => HAB.out (Pl.gR al k, Pl.gC al k) W hb)
      have hfa := HFA.out k hlt
      have htf := HTF.out k hlt
      have hle := HLE.out k
      rw [HF.out] at htf hle
      rw [hfa] at htf
      have e1 : Pl.sv (Pl.gR al k, Pl.gC al k) = .agg #[.int .i64 (Pl.gR al k), .int .u8 (Pl.gC al k)] := rfl
      rw [e1] at HABk
      have HTK := Lib.hid htf
      clear e1 hc hfa htf
      generalize Pl.ix r.p.bl (Pl.gR al k, Pl.gC al k) = n at *
      generalize Pl.gR al k = sr at *
      generalize Pl.gC al k = sc at *
      have hll : ls.length < 100000 := by omega
      have HC : Hid (∀ v : World, Below wa.heap.size wa v → v.cell? ⟨w.heap.size, 4, none⟩ = some (.slice r.bA r.p.bl.length r.bc) ∧ v.cell? ⟨b5, off + k * 2, none⟩ = some (.int .i64 sr) ∧ v.cell? ⟨b5, off + k * 2 + 1, none⟩ = some (.int .u8 sc) ∧ Hid (Below wa.heap.size wa v)) := fun v hb => ⟨((HKa.out.below' hb).cell 4).trans rfl, (hb.cell (p := ⟨b5, off + k * 2, none⟩) hb5a).trans HSR.out, (hb.cell (p := ⟨b5, off + k * 2 + 1, none⟩) hb5a).trans HSC.out, hb⟩
      have HD : Hid (∀ v : World, (v.cell? ⟨w.heap.size, 4, none⟩ = some (.slice r.bA r.p.bl.length r.bc) ∧ v.cell? ⟨b5, off + k * 2, none⟩ = some (.int .i64 sr) ∧ v.cell? ⟨b5, off + k * 2 + 1, none⟩ = some (.int .u8 sc) ∧ Hid (Below wa.heap.size wa v)) → Below wa.heap.size wa v) := fun v h => h.2.2.2.out
      by_cases hn : n < 0
      · have hd : decide (n < 0) = true := decide_eq_true hn
        have HN : Hid ((al.take (k + 1)).filter hs = ls ++ [(sr, sc)]) := show _ = _ by rw [HTK.out, hd]; rfl
        clear HTK
        go_wp2
        go_region_held3 (fun v => v.cell? ⟨w.heap.size, 4, none⟩ = some (.slice r.bA r.p.bl.length r.bc) ∧ v.cell? ⟨b5, off + k * 2, none⟩ = some (.int .i64 sr) ∧ v.cell? ⟨b5, off + k * 2 + 1, none⟩ = some (.int .u8 sc) ∧ Hid (Below wa.heap.size wa v)) (first | assumption | exact HC.out _ (Below.trans (HD.out _ (by assumption)) (Below.mono hbq (HD.out _ (by assumption)).size)) | exact HC.out _ (Below.refl _ _).drew) (first
          | (go_at_call 26; with_reducible refine (HABk.out _ (HBw.out.trans ((HD.out _ (by assumption)).mono HBw.out.size))).mono ?_; rintro e w7 ⟨rfl, hbq⟩))
        have HB7 := Lib.hid (HD.out _ (by assumption))
        obtain ⟨w7', e7'⟩ : ∃ x, x = w7 := ⟨_, rfl⟩
        subst e7'
        have t0 := (HC.out _ HB7.out).2.1
        have t1 := (HC.out _ HB7.out).2.2.1
        have HO7 := Lib.hid (HO.out.below HB7.out)
        have h7 := HB7.out.size
        have ba : Below w7'.heap.size w7' (w7'.alloc (.cells #[.int .i64 sr, .int .u8 sc] 23)) := (Below.refl _ _).alloc (Nat.le_refl _) _
        have HLa := Lib.hid (HO7.out.below ba)
        have hba := Nat.le_trans (Nat.le_trans hza h7) ba.size
        have HBc := Lib.hid ((HBa.out.trans (HB7.out.mono hza)).trans (ba.mono (Nat.le_trans hza h7)))
        have HSc := Lib.hid (Pl.Sc.new (sr, sc) w7')
        clear ba
        go_wp2_with (first
          | (refine Rw.wpList_appendS rfl (.tmp 22) (.tmp 27) rfl w3.heap.size (.slice C ls.length c) ls (sr, sc) HLa.out rfl w7'.heap.size rfl HSc.out hll hba (ls.length + 1) rfl ?_; intro A8 c8 w8 h81 h82 h83; have HO8 := h81; have HB8 := Lib.hid (HBc.out.trans h82.out); clear h81 h82 h83))
        go_roundw
        case rel => exact ⟨k + 1, _, A8, c8, by omega, by go_num, by simp, HN, by simpa using HO8, HB8⟩
        case measure => simp [intOf]; omega
      · have hd : decide (n < 0) = false := decide_eq_false hn
        have HN : Hid ((al.take (k + 1)).filter hs = ls) := show _ = _ by rw [HTK.out, hd]; simp
        clear HTK
        go_wp2
        go_region_held3 (fun v => v.cell? ⟨w.heap.size, 4, none⟩ = some (.slice r.bA r.p.bl.length r.bc) ∧ v.cell? ⟨b5, off + k * 2, none⟩ = some (.int .i64 sr) ∧ v.cell? ⟨b5, off + k * 2 + 1, none⟩ = some (.int .u8 sc) ∧ Hid (Below wa.heap.size wa v)) (first | assumption | exact HC.out _ (Below.trans (HD.out _ (by assumption)) (Below.mono hbq (HD.out _ (by assumption)).size)) | exact HC.out _ (Below.refl _ _).drew) (first
          | (go_at_call 26; with_reducible refine (HABk.out _ (HBw.out.trans ((HD.out _ (by assumption)).mono HBw.out.size))).mono ?_; rintro e w7 ⟨rfl, hbq⟩))
        have HB7 := Lib.hid (HD.out _ (by assumption))
        have HO7 := Lib.hid (HO.out.below HB7.out)
        have HB8 := Lib.hid (HBa.out.trans (HB7.out.mono hza))
        go_wp2
        go_roundw
        case rel => exact ⟨k + 1, ls, C, c, by omega, by go_num, rfl, HN, HO7, HB8⟩
        case measure => simp [intOf]; omega
    · have hke : k = al.length := by omega
      have HN : Hid (ls = res) := show _ = _ by rw [← HF.out, hke]; exact HEN.out
      obtain rfl := HN.out
      go_wp2
      go_ret
      exact ⟨C, c, rfl, HO.out.low h03, HBw.out⟩
end Go.Proofs.YtonfkonjkgalhaaDoor
