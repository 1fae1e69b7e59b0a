/- Contract of copies. -/
import Derived.Test.YtmcekicaigbccaaGreatFlApp
namespace Go.Proofs.YtmcekicaigbccaaGreat
open Go.RowKit
set_option linter.unusedVariables false

namespace Fl
theorem run_build1 (r : R) (w : World) : (Instr.buildSlice 22 1 #[(0, fv r)]).run Tryz.prog w = .ok (.slice (some ⟨w.heap.size, 0, none⟩) 1 1) (w.alloc (.cells (enc r).toArray 62)) := by
  obtain ⟨⟨car, num, frm, to, days, dep, arr, cls, plan⟩, A, cap⟩ := r
  unfold fv enc
  simp only
  simp [Instr.buildSlice, run_underlying Tryz.underlying22, Tryz.sizeOf62, go_sem, Instr.fill, newRow]
section
variable {w : World} {ops : Array Oper} {rest : List Oper} {o : Oper} {a : Act} {Q : Exit → Act → World → Prop}
theorem wpList_build1 (hg : o.guard = none) (y : Operand) (hop : o.op = Op.buildSlice 22 1 #[(0, y)]) (r : R) (hx : a.eval y = fv r)
    (hK : ∀ w', Rw.Blk w' w.heap.size 62 (enc r) → Below w.heap.size w w' → wpList Tryz.prog ops Q rest (a.put o.dst (.slice (some ⟨w.heap.size, 0, none⟩) 1 1)) w') : wpList Tryz.prog ops Q (o :: rest) a w := by
  refine wpList_plain hg fun K hK' => ?_
  have hr := run_build1 r w
  unfold Oper.wp
  simp [execOp, hop, hx, hr, Result.andThen]
  exact hK' _ _ (hK _ (heap_alloc_new w _) ((Below.refl _ _).alloc (Nat.le_refl _) _))
end
end Fl
set_option maxHeartbeats 1000000 in
theorem copies_any (A : Option Addr) (rs : List Fl.R) (cap B : Nat) (w : World) (h : Fl.Fls w B A rs) (hB : B ≤ w.heap.size) (hn : rs.length ≤ 3000) (hl : ∀ r ∈ rs, 0 < r.f.cls.length ∧ r.f.cls.length ≤ 3000) :
    Calls Tryz.prog 49 #[.slice A rs.length cap] w (Fl.CopiesIs w (rs.map Fl.R.f)) := by
  obtain ⟨i0, hi0, hz0, hz1, hz2⟩ := Fl.infoF'
  have HI := Lib.hid hi0
  have HZ0 := Lib.hid hz0
  have HZ1 := Lib.hid hz1
  have HZ2 := Lib.hid hz2
  have HF := Lib.hid h
  have HLS := Lib.hid hl
  clear hi0 hz0 hz1 hz2 h hl
  go_enter Tryz.func49, Tryz.ntmps49
  go_wp2_with (refine wpList_make_own _ rfl _ _ 22 rfl w.heap.size 62 i0 _ 9 Tryz.underlying22 HI.out HZ0.out HZ1.out .i64 .i64 _ rs.length rfl rfl rfl (by rw [HZ2.out]; omega) (by unfold maxLen; omega) (Nat.le_refl _) ?_; intro w1 r1 g1)
  have hb1 : Below w.heap.size w w1 := ⟨g1.os, g1.tape, g1.output, g1.size, fun k hk => g1.block k hk (by simp)⟩
  have HO1 := Lib.hid (Fl.Own.nil r1)
  clear r1 g1
  go_loopw [3, 11] (fun o i wr => ∃ (k : Nat) (A' : Option Addr) (cap' : Nat) (rs' : List Fl.R), k ≤ rs.length ∧ i = .int .i64 k ∧ o = .slice A' k cap' ∧ Hid (rs'.map Fl.R.f = (rs.map Fl.R.f).take k) ∧ Hid (Fl.Own wr w.heap.size (.slice A' k cap') rs') ∧ Below w.heap.size w wr) (fun _ i _ => rs.length - (intOf i).toNat)
  case atStart => exact ⟨0, _, _, [], by omega, rfl, rfl, show _ = _ by simp, HO1.out, hb1⟩
  case round =>
    obtain ⟨k, A', cap', rs', hk, rfl, rfl, HM, HO, hbr⟩ := hrel
    by_cases hlt : k < rs.length
    · obtain ⟨b, off, hA, hbB, hrow⟩ := HF.out.row (by omega)
      have hlen' : rs'.length = k := by have := congrArg List.length HM.out; simpa [Nat.min_eq_left hk] using this
      have HLN := Lib.hid hlen'
      have HR : Hid (wr.rangeAt b (off + k * 9) (Fl.enc rs[k])) := fun j v hv => (hbr.cell (p := ⟨b, _, none⟩) (show b < w.heap.size by omega)).trans (hrow k hlt j v hv)
      have HC := Lib.hid (HF.out.cls rs[k] (List.getElem_mem hlt))
      have HW := Lib.hid (HF.out.wf rs[k] (List.getElem_mem hlt))
      have HL3 := Lib.hid (HLS.out rs[k] (List.getElem_mem hlt))
      have HM2 : Hid ((rs.map Fl.R.f).take (k + 1) = rs'.map Fl.R.f ++ [rs[k].f]) := show _ = _ by
        rw [HM.out, List.take_succ_eq_append_getElem (by simpa using hlt)]; simp
      subst hA
      clear hrow hlen'
      generalize hr : rs[k] = r at *
      have HRR := Lib.hid hr
      clear hr
      go_wp2_with (first
        | (refine wpList_load_mid rfl 62 _ rfl b (off + k * 9) rfl (Fl.enc r) _ HR.out Fl.uF Fl.rF Fl.iF ?_)
        | (refine Rw.wpList_alloc rfl 62 rfl (Fl.enc Fl.r0) Fl.zF ?_; intro w2 K2 hb2 hz2; clear hz2)
        | (refine Rw.wpList_store_whole rfl 62 _ _ rfl wr.heap.size rfl (Fl.enc r) rfl _ _ K2 Fl.iF rfl (Fl.enc_one _) ?_; intro w3 K3 f3; have b3 : Below wr.heap.size wr w3 := hb2.trans (f3.below hb2.size (fun k hk => by have : k = wr.heap.size := hk; omega)); have b03 := hbr.trans (b3.mono hbr.size))
        | (refine wpList_load_mid rfl 62 _ rfl wr.heap.size 0 rfl (Fl.enc r) _ K3.range Fl.uF Fl.rF Fl.iF ?_)
        | (go_at_call 63; refine (alone_any r B w3 HW.out (HC.out.below b03 hB) (Nat.le_trans hB b03.size) HL3.out.2 HL3.out.1).mono ?_; rintro e w4 ⟨A1, cap1, rfl, HN, hcap, hnil, hsp, hb4⟩; have b4 := b3.trans (hb4.mono b3.size); have b04 := b03.trans (hb4.mono b03.size); have HN4 := Lib.hid HN; have HSP := Lib.hid hsp; clear HN hsp)
        | (refine Fl.wpList_build1 rfl _ rfl ⟨r.f, A1, cap1⟩ rfl ?_; intro w5 K5 hb5)
        | (refine Fl.wpList_appendFl rfl _ _ rfl w.heap.size _ rs' ⟨r.f, A1, cap1⟩ ((HO.out.below b4).below hb5) ?q1 ?q2 rfl _ rfl K5 ?q3 ?q4 (k + 1) ?q5 ?_))
      case q1 => exact ((HN4.out.below hb5).more b03.size hb5.size)
      case q2 => exact ⟨HW.out.car, HW.out.frm, HW.out.to, HW.out.n0, HW.out.n1, HW.out.d0, HW.out.d1, HW.out.p0, HW.out.p1, HW.out.a0, HW.out.a1, HW.out.l, hcap, hnil, fun a h _ => HSP.out a h⟩
      case q3 => rw [HLN.out]; omega
      case q4 => exact Nat.le_trans b04.size hb5.size
      case q5 => rw [HLN.out]
      intro A2 cap2 w6 HO6 hb6
      go_wp2
      go_roundw
      case rel => exact ⟨k + 1, A2, cap2, rs' ++ [(⟨r.f, A1, cap1⟩ : Fl.R)], by omega, by go_num, rfl, (show _ = _ by rw [HM2.out]; simp), HO6, (b04.trans (hb5.mono b04.size)).trans hb6.out⟩
      case measure => simp [intOf]; omega
    · have hkn : k = rs.length := by omega
      have HM3 : Hid (rs'.map Fl.R.f = rs.map Fl.R.f) := show _ = _ by
        rw [HM.out, hkn]; exact List.take_of_length_le (by simp)
      go_wp2
      go_ret
      refine ⟨A', cap', rs', ?_, HM3.out, ?_, hbr⟩
      · rw [List.length_map, ← hkn]; rfl
      · rw [List.length_map, ← hkn]; exact HO.out
end Go.Proofs.YtmcekicaigbccaaGreat
