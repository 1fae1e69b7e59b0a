/- Contract of New, of flights that are right. -/
import Derived.Test.YtmcekicaigbccaaGreatFlNew
namespace Go.Proofs.YtmcekicaigbccaaGreat
open Go.RowKit Go.WideMaps
set_option linter.unusedVariables false

namespace Fl
theorem uMap : Tryz.prog.underlying 107 = some (.map 32 3) := by kernel_rfl
theorem mkMap (n : Nat) (h : n ≤ 64) (w : World) : (Instr.makeMap 107 (some (.int .i64 n))).run Tryz.prog w = .ok (.map (some w.heap.size)) (w.alloc (.map #[] 0)) := by
  simp [Instr.makeMap, go_sem]
theorem lenMap {w : World} {m : Nat} {es : Array MapEntry} {ck : Nat} (h : w.heap[m]? = some (.map es ck)) : (Builtin.len_ #[107] 3 #[.map (some m)]).run Tryz.prog w = .ok (.int .i64 es.size) w := by
  simp [Builtin.len_, run_underlying uMap, MapKept.run_getObj_map h, go_sem]
end Fl
set_option maxHeartbeats 1000000 in
set_option maxRecDepth 20000 in
theorem new_right (A : Option Addr) (rs : List Fl.R) (cap B : Nat) (w : World) (h : Fl.Fls w B A rs) (hB : B ≤ w.heap.size) (hn : rs.length ≤ 64) (hr : ∀ r ∈ rs, Fl.right r.f = true) (hl : ∀ r ∈ rs, r.f.cls.length ≤ 3000) :
    Calls Tryz.prog 24 #[.slice A rs.length cap] w (Fl.NewIs w rs) := by
  have HRT := Lib.hid hr
  have HF := Lib.hid h
  have HMM := Lib.hid (Fl.mkMap rs.length hn)
  have HCP := Lib.hid (fun w1 (b1 : Below w.heap.size w w1) => copies_any A rs cap B w1 (h.below b1 hB) (Nat.le_trans hB b1.size) (by omega) (fun r hr1 => ⟨by
    have := hr r hr1
    unfold Fl.right Fl.clsOk at this
    simp only [Bool.and_eq_true, decide_eq_true_eq] at this
    have := this.1.2.1.1
    omega, hl r hr1⟩))
  clear h hr hl
  go_enter Tryz.func24, Tryz.ntmps24
  go_wp2
  go_loopw [15] (fun i wr => ∃ (k : Nat), k ≤ rs.length ∧ i = .int .i64 k ∧ Below w.heap.size w wr) (fun i _ => rs.length - (intOf i).toNat)
  case atStart => exact ⟨0, by omega, rfl, Below.refl _ _⟩
  case round =>
    obtain ⟨k, hk, rfl, hbr⟩ := hrel
    by_cases hlt : k < rs.length
    · obtain ⟨b, off, hA, hbB, hrow⟩ := HF.out.row (by omega)
      have HR : Hid (wr.rangeAt b (off + k * 9) (Fl.enc rs[k])) := fun j v hv => (hbr.cell (p := ⟨b, _, none⟩) (show b < w.heap.size by omega)).trans (hrow k hlt j v hv)
      have HC := Lib.hid (HF.out.cls rs[k] (List.getElem_mem hlt))
      have HW := Lib.hid (HF.out.wf rs[k] (List.getElem_mem hlt))
      have HCD : Hid (Fl.code rs[k].f = 0) := show _ = _ by simp [Fl.code, HRT.out _ (List.getElem_mem hlt)]
      subst hA
      clear hrow
      generalize hr : rs[k] = r at *
      clear hr
      have HCK : Hid (∀ w3, Below w.heap.size w w3 → Calls Tryz.prog 48 #[Fl.fv r] w3 fun e w' => e = .returned (.int .i64 (Fl.code r.f)) ∧ Below w3.heap.size w3 w') := fun w3 b03 => check_any r B w3 HW.out (HC.out.below b03 hB) (Nat.le_trans hB b03.size)
      rw [HCD.out] at HCK
      go_wp2_with (first
        | (refine wpList_load_mid rfl 62 _ rfl b (off + k * 9) rfl (Fl.enc r) _ HR.out Fl.uF Fl.rF Fl.iF ?_)
        | (refine Rw.wpList_alloc rfl 62 rfl (Fl.enc Fl.r0) Fl.zF ?_; intro w2 K2 hb2 hz2; clear hz2)
        | (refine Rw.wpList_store_whole rfl 62 _ _ rfl wr.heap.size rfl (Fl.enc r) rfl _ _ K2 Fl.iF rfl (Fl.enc_one _) ?_; intro w3 K3 f3; have b3 : Below wr.heap.size wr w3 := hb2.trans (f3.below hb2.size (fun k hk => by have : k = wr.heap.size := hk; omega)); have b03 := hbr.trans (b3.mono hbr.size))
        | (refine wpList_load_mid rfl 62 _ rfl wr.heap.size 0 rfl (Fl.enc r) _ K3.range Fl.uF Fl.rF Fl.iF ?_)
        | (go_at_call 48; refine (HCK.out w3 b03).mono ?_; rintro e w4 ⟨rfl, hb4⟩; have b04 := b03.trans (hb4.mono b03.size)))
      go_roundw
      case rel => exact ⟨k + 1, by omega, by go_num, b04⟩
      case measure => simp [intOf]; omega
    · go_wp2
      go_cut [7] from 25 (fun s7 wx => Hid (Fl.Mid w (rs.map Fl.R.f) rs.length s7 wx))
      case first =>
        have hmm := HMM.out
        go_region_with (go_at_call 49; refine (HCP.out _ (by first | exact hbr.drew | exact (hbr.alloc hbr.size _).drew | exact (hbr.drew.alloc hbr.size _))).mono ?_; rintro e w4 ⟨A1, cap1, rs1, rfl, H1, H2, hb4⟩)
        all_goals go_wp2
        all_goals go_meet
        · exact Fl.Mid.made1 hbr.drew H1 (by simpa using H2) hb4
        · exact Fl.Mid.made2 (W := wr) hbr H1 (by simpa using H2) ⟨hb4.os, hb4.tape, hb4.output, hb4.size, hb4.block⟩
      case rest =>
        obtain ⟨wb, ewb⟩ : ∃ wb, wb = wc := ⟨_, rfl⟩
        subst ewb
        obtain ⟨p, m, A1, cap1, rs1, rfl, HBk, HO, HMp, HFs, hp0, hm0, hbb⟩ := hcut.out
        have HBk1 := Lib.hid HBk
        have HO1 := Lib.hid HO
        have HMp1 := Lib.hid HMp
        have HFs1 := Lib.hid HFs
        have c0 : wb.cell? ⟨p, 0, none⟩ = some (.slice A1 rs.length cap1) := (HBk.cell 0).trans rfl
        have hl1 : rs1.length = rs.length := by have := congrArg List.length HFs; simpa using this
        have HSO := Lib.hid (sortOwn_any w.heap.size _ rs1 wb HO (by omega))
        clear HBk HO HMp HFs hcut
        go_wp2_with (first
          | (go_at_call 50; refine HSO.out.mono ?_; rintro e w5 ⟨rfl, rs2, HP2, HRi, HO2, f5⟩; have HP3 := Lib.hid HP2; have HRi2 := Lib.hid HRi; have HO3 := Lib.hid HO2; have HBk2 : Hid (Rw.Blk w5 p 109 [.slice A1 rs.length cap1, .map (some m)]) := HBk1.out.kept (f5.block p HBk1.out.lt (by rintro ⟨_, c', h4⟩; rw [show wb.heap[p]? = _ from HBk1.out] at h4; cases h4)); have c05 : w5.cell? ⟨p, 0, none⟩ = some (.slice A1 rs.length cap1) := (HBk2.out.cell 0).trans rfl; clear HP2 HRi HO2))
        have HB5 : Hid (Below w.heap.size w w5) := hbb.trans (f5.below hbb.size (fun k hk => hk.1))
        have HM5 : Hid (Mp.MapL Tryz.prog 32 w5 m []) := HMp1.out.kept (f5.block m HMp1.out.lt (by rintro ⟨_, c', h4⟩; obtain ⟨es, ck, h5, _⟩ := HMp1.out; rw [h5] at h4; cases h4))
        have HL2 : Hid (rs2.length = rs.length) := show _ = _ by rw [HP3.out.length_eq, hl1]
        have HPP : Hid ((rs2.map Fl.R.f).Perm (rs.map Fl.R.f)) := by
          have := HP3.out.map Fl.R.f
          rw [HFs1.out] at this
          exact this
        clear c0 c05 f5 HSO HO1 HMp1 HBk1 HFs1 HP3 hbb
        go_loopw [42] (fun i wr2 => ∃ (k2 : Nat) (l : List (Value × Value)), k2 ≤ rs.length ∧ i = .int .i64 k2 ∧ Hid (Fl.Ix rs2 k2 l) ∧ Hid (Rw.Blk wr2 p 109 [.slice A1 rs.length cap1, .map (some m)]) ∧ Hid (Fl.Own wr2 w.heap.size (.slice A1 rs.length cap1) rs2) ∧ Hid (Mp.MapL Tryz.prog 32 wr2 m l) ∧ Hid (Below w.heap.size w wr2)) (fun i _ => rs.length - (intOf i).toNat)
        case atStart => exact ⟨0, [], by omega, rfl, Fl.Ix.zero _, HBk2, HO3, HM5, HB5⟩
        case round =>
          obtain ⟨wr2, ewr2⟩ : ∃ wr2, wr2 = wr := ⟨_, rfl⟩
          subst ewr2
          obtain ⟨k2, l, hk2, rfl, HIx, HBl, HOw, HMl, HBe⟩ := hrel
          by_cases hlt2 : k2 < rs.length
          · have hlt3 : k2 < rs2.length := by rw [HL2.out]; exact hlt2
            obtain ⟨b, hA, hbB, hrow⟩ := HOw.out.at k2 hlt3
            have HR := Lib.hid hrow
            have HW := Lib.hid (HOw.out.wf rs2[k2] (List.getElem_mem hlt3))
            have HST : Hid (∀ l', (((∀ p ∈ l, p.1 ≠ Fl.kv rs2[k2].f) ∧ l' = l ++ [(Fl.kv rs2[k2].f, .int .i64 k2)]) ∨ ∃ (j : Nat) (u : Value), l[j]? = some (Fl.kv rs2[k2].f, u) ∧ l' = l.set j (Fl.kv rs2[k2].f, .int .i64 k2)) → Fl.Ix rs2 (k2 + 1) l') := fun l' hu => HIx.out.step hlt3 hu
            subst hA
            clear hrow
            generalize hr : rs2[k2] = r at *
            clear hr
            have hbp : p < wr2.heap.size := HBl.out.lt
            go_wp2_with (first
              | (refine wpList_load_mid rfl 62 _ rfl b (k2 * 9) rfl (Fl.enc r) _ HR.out Fl.uF Fl.rF Fl.iF ?_)
              | (refine Rw.wpList_alloc rfl 62 rfl (Fl.enc Fl.r0) Fl.zF ?_; intro w2 K2 hb2 hz2; clear hz2)
              | (refine Rw.wpList_store_whole rfl 62 _ _ rfl wr2.heap.size rfl (Fl.enc r) rfl _ _ K2 Fl.iF rfl (Fl.enc_one _) ?_; intro w3 K3 f3; have b3 : Below wr2.heap.size wr2 w3 := hb2.trans (f3.below hb2.size (fun k hk => by have : k = wr2.heap.size := hk; omega))))
            have hc0 : w3.cell? ⟨wr2.heap.size, 0, none⟩ = some (.string r.f.car) := (K3.cell 0).trans rfl
            have hc1 : w3.cell? ⟨wr2.heap.size, 1, none⟩ = some (.int .i64 r.f.num) := (K3.cell 1).trans rfl
            have HBl3 := Lib.hid (HBl.out.below' b3)
            have hcp : w3.cell? ⟨p, 1, none⟩ = some (.map (some m)) := (HBl3.out.cell 1).trans rfl
            have HM3 : Hid (Mp.MapL Tryz.prog 32 w3.drew m l) := HMl.out.kept (b3.block m HMl.out.lt)
            have HO33 : Hid (Fl.Own w3.drew w.heap.size (.slice (some ⟨b, 0, none⟩) rs.length cap1) rs2) := (HOw.out.below b3).below ⟨rfl, rfl, rfl, Nat.le_refl _, fun _ _ => rfl⟩
            obtain ⟨w6, l6, hrun, HM6, HOn, HU⟩ := HM3.out.upd Fl.lawKey (Fl.kv_key HW.out.car HW.out.n0 HW.out.n1) Fl.uMap (.int .i64 k2)
            unfold Fl.kv at hrun
            have HI6 := Lib.hid (HST.out l6 HU)
            have HM66 := Lib.hid HM6
            have HO6 := Lib.hid (HO33.out.only HM3.out HOn)
            have HB6 := Lib.hid (Fl.blk_only (show Rw.Blk w3.drew p _ _ from HBl3.out) HM3.out HOn)
            have HBe6 : Hid (Below w.heap.size w w6) := (HBe.out.trans (b3.mono HBe.out.size)).drew.trans (HOn.below hm0)
            clear HU HM6 HOn
            go_region
            all_goals go_wp2
            all_goals first
              | exact ⟨⟨k2 + 1, l6, by omega, by go_num, HI6, HB6, HO6, HM66, HBe6⟩, by simp [intOf]; omega⟩
              | (go_roundw <;> first | exact ⟨k2 + 1, l6, by omega, by go_num, HI6, HB6, HO6, HM66, HBe6⟩ | (simp [intOf]; omega))
          · have hkn : k2 = rs.length := by omega
            obtain ⟨es, ck, hhm, hes⟩ := Fl.mapl_size HMl.out
            have hcp : wr2.cell? ⟨p, 1, none⟩ = some (.map (some m)) := (HBl.out.cell 1).trans rfl
            rcases HIx.out with ⟨hl, hnd⟩ | ⟨hl, hnd⟩
            · rw [List.take_of_length_le (by rw [HL2.out]; omega)] at hl hnd
              have hes2 : es.size = rs.length := by rw [hes, hl, Fl.ent_len, HL2.out]
              have hlm := Fl.lenMap hhm
              rw [hes2] at hlm
              have HL := Lib.hid hl
              have HND := Lib.hid hnd
              clear hl hnd hes
              go_wp2
              go_ret2
              exact .inl ⟨(Fl.ks_perm HPP.out).1 HND.out, p, rs2, rfl, HPP.out, ⟨⟨A1, cap1, m, by rw [HL2.out]; exact HBl.out, by rw [HL2.out]; exact HOw.out, by rw [← HL.out]; exact HMl.out, hm0⟩, hp0, HND.out, HRi2.out⟩, HBe.out⟩
            · rw [List.take_of_length_le (by rw [HL2.out]; omega)] at hnd
              have hes2 : es.size < rs.length := by rw [hes]; omega
              have hlm := Fl.lenMap hhm
              have HND := Lib.hid hnd
              clear hl hnd hes
              go_wp2
              go_ret2
              exact .inr ⟨fun h => HND.out ((Fl.ks_perm HPP.out).2 h), rfl, HBe.out⟩
end Go.Proofs.YtmcekicaigbccaaGreat
