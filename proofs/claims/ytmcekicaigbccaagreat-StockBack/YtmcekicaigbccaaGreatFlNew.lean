/- Contract of New. -/
import Derived.Test.YtmcekicaigbccaaGreatFlTab
import Derived.Deep.RegionWith
import Derived.Deep.Cut
namespace Go.Proofs.YtmcekicaigbccaaGreat
open Go.RowKit Go.WideMaps
set_option linter.unusedVariables false

theorem new_many (A : Option Addr) (n cap : Nat) (w : World) (hn : 64 < n) (hn2 : n ≤ 9223372036854775807) : Calls Tryz.prog 24 #[.slice A n cap] w fun e w' => e = .returned (.tuple #[.pointer none, .int .i64 2]) ∧ w = w' := by
  go_enter Tryz.func24, Tryz.ntmps24
  go_wp2
  go_ret2
  exact ⟨rfl, rfl⟩
set_option maxHeartbeats 1000000 in
theorem new_wrong (A : Option Addr) (rs : List Fl.R) (cap B : Nat) (w : World) (h : Fl.Fls w B A rs) (hB : B ≤ w.heap.size) (hn : rs.length ≤ 64) (hr : ∃ r ∈ rs, Fl.right r.f = false) :
    Calls Tryz.prog 24 #[.slice A rs.length cap] w fun e w' => e = .returned (.tuple #[.pointer none, .int .i64 4]) ∧ Below w.heap.size w w' := by
  obtain ⟨r1, hm1, hr1⟩ := hr
  obtain ⟨q, hq, hq1⟩ := List.getElem_of_mem hm1
  have HQ : Hid (Fl.right rs[q].f = false) := show _ = _ by rw [hq1]; exact hr1
  clear hr1 hq1 hm1
  have HF := Lib.hid h
  clear h
  go_enter Tryz.func24, Tryz.ntmps24
  go_wp2
  go_loopw [15] (fun i wr => ∃ (k : Nat), k ≤ q ∧ i = .int .i64 k ∧ Below w.heap.size w wr) (fun i _ => rs.length - (intOf i).toNat)
  case atStart => exact ⟨0, by omega, rfl, Below.refl _ _⟩
  case round =>
    obtain ⟨k, hk, rfl, hbr⟩ := hrel
    have hlt : k < rs.length := by omega
    obtain ⟨b, off, hA, hbB, hrow⟩ := HF.out.row (by omega)
    have HR : Hid (wr.rangeAt b (off + k * 9) (Fl.enc rs[k])) := fun j v hv => (hbr.cell (p := ⟨b, _, none⟩) (show b < w.heap.size by omega)).trans (hrow k hlt j v hv)
    have HC := Lib.hid (HF.out.cls rs[k] (List.getElem_mem hlt))
    have HW := Lib.hid (HF.out.wf rs[k] (List.getElem_mem hlt))
    have HQ2 : Hid (k = q → Fl.right rs[k].f = false) := fun e => by subst e; exact HQ.out
    subst hA
    clear hrow
    generalize hr : rs[k] = r at *
    clear hr
    have HCK : Hid (∀ w3, Below w.heap.size w w3 → Calls Tryz.prog 48 #[Fl.fv r] w3 fun e w' => e = .returned (.int .i64 (Fl.code r.f)) ∧ Below w3.heap.size w3 w') := fun w3 b03 => check_any r B w3 HW.out (HC.out.below b03 hB) (Nat.le_trans hB b03.size)
    cases hc : Fl.right r.f with
    | true =>
      have HNQ : Hid (k ≠ q) := fun e => by have := HQ2.out e; rw [hc] at this; cases this
      have HCD : Hid (Fl.code r.f = 0) := show _ = _ by simp [Fl.code, hc]
      rw [HCD.out] at HCK
      clear hc
      go_wp2_with (first
        | (refine wpList_load_mid rfl 62 _ rfl b (off + k * 9) rfl (Fl.enc r) _ HR.out Fl.uF Fl.rF Fl.iF ?_)
        | (refine Rw.wpList_alloc rfl 62 rfl (Fl.enc Fl.r0) Fl.zF ?_; intro w2 K2 hb2 hz2; clear hz2)
        | (refine Rw.wpList_store_whole rfl 62 _ _ rfl wr.heap.size rfl (Fl.enc r) rfl _ _ K2 Fl.iF rfl (Fl.enc_one _) ?_; intro w3 K3 f3; have b3 : Below wr.heap.size wr w3 := hb2.trans (f3.below hb2.size (fun k hk => by have : k = wr.heap.size := hk; omega)); have b03 := hbr.trans (b3.mono hbr.size))
        | (refine wpList_load_mid rfl 62 _ rfl wr.heap.size 0 rfl (Fl.enc r) _ K3.range Fl.uF Fl.rF Fl.iF ?_)
        | (go_at_call 48; refine (HCK.out w3 b03).mono ?_; rintro e w4 ⟨rfl, hb4⟩; have b04 := b03.trans (hb4.mono b03.size)))
      go_roundw
      case rel => exact ⟨k + 1, by have := HNQ.out; omega, by go_num, b04⟩
      case measure => simp [intOf]; omega
    | false =>
      have HCD : Hid (Fl.code r.f = 4) := show _ = _ by simp [Fl.code, hc]
      rw [HCD.out] at HCK
      clear hc
      go_wp2_with (first
        | (refine wpList_load_mid rfl 62 _ rfl b (off + k * 9) rfl (Fl.enc r) _ HR.out Fl.uF Fl.rF Fl.iF ?_)
        | (refine Rw.wpList_alloc rfl 62 rfl (Fl.enc Fl.r0) Fl.zF ?_; intro w2 K2 hb2 hz2; clear hz2)
        | (refine Rw.wpList_store_whole rfl 62 _ _ rfl wr.heap.size rfl (Fl.enc r) rfl _ _ K2 Fl.iF rfl (Fl.enc_one _) ?_; intro w3 K3 f3; have b3 : Below wr.heap.size wr w3 := hb2.trans (f3.below hb2.size (fun k hk => by have : k = wr.heap.size := hk; omega)); have b03 := hbr.trans (b3.mono hbr.size))
        | (refine wpList_load_mid rfl 62 _ rfl wr.heap.size 0 rfl (Fl.enc r) _ K3.range Fl.uF Fl.rF Fl.iF ?_)
        | (go_at_call 48; refine (HCK.out w3 b03).mono ?_; rintro e w4 ⟨rfl, hb4⟩; have b04 := b03.trans (hb4.mono b03.size)))
      go_ret2
      exact ⟨rfl, b04⟩
end Go.Proofs.YtmcekicaigbccaaGreat
