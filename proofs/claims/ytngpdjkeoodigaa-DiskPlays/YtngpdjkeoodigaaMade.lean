/- Contracts of made, sectors and same. -/
import Derived.Test.YtngpdjkeoodigaaFuseA
import Derived.Deep.QuietTactic
import Derived.BigQuiet
namespace Go.Proofs.Ytngpdjkeoodigaa
open Go.RowKit

namespace Dk
/-- A disk of six sectors, the power on, no fuse, at most k waiting. -/
structure Calm (k : Nat) (s : S) : Prop where
  n6 : s.n = 6
  up : s.down = false
  nf : s.fused = false
  l0 : s.left = 0
  wk : s.wait.length ≤ k
theorem Calm.write {k : Nat} {s : S} (h : Calm k s) (i : Int) (l : List UInt8) : Calm (k + 1) (s.write i l) := by
  have h' : Calm (k + 1) s := ⟨h.n6, h.up, h.nf, h.l0, Nat.le_succ_of_le h.wk⟩
  unfold S.write
  rw [burn_calm h.nf]
  split
  · exact h'
  · split
    · exact h'
    · split
      · exact h'
      · exact ⟨h.n6, h.up, h.nf, h.l0, by simp [S.put, h.wk]⟩
theorem Calm.done {k : Nat} {s : S} (h : Calm k s) : Calm 0 s.done := ⟨h.n6, h.up, h.nf, h.l0, by simp [S.done]⟩
theorem Calm.restart {k : Nat} {s : S} (h : Calm k s) (m : List Bool) : Calm 0 (s.restart m) := ⟨h.n6, rfl, rfl, rfl, by simp [S.restart]⟩
theorem Calm.more {k j : Nat} {s : S} (h : Calm k s) (hj : k ≤ j) : Calm j s := ⟨h.n6, h.up, h.nf, h.l0, Nat.le_trans h.wk hj⟩
theorem Bls.kept {w w' : World} {G : Nat → Prop} {A : Option Addr} {m : List Bool} (h : Bls w G A m) (hb : ∀ k, G k → w'.heap[k]? = w.heap[k]?) : Bls w' G A m := fun hl => by
  obtain ⟨b, off, e, hB, hc⟩ := h hl
  exact ⟨b, off, e, hB, fun j hj => (World.cell?_of_block (w := w) (a := ⟨b, off + j, none⟩) (hb b hB)).trans (hc j hj)⟩
theorem Bls.imp {w : World} {G G' : Nat → Prop} {A : Option Addr} {m : List Bool} (h : Bls w G A m) (hG : ∀ k, G k → G' k) : Bls w G' A m := fun hl => by
  obtain ⟨b, off, e, hB, hc⟩ := h hl
  exact ⟨b, off, e, hG b hB, hc⟩
end Dk

set_option maxRecDepth 100000 in
set_option maxHeartbeats 2000000 in
theorem made_any (w : World) (A : Option Addr) (l : List Dk.ActD) (c : Nat) (hA : Dk.Acts w (· < w.heap.size) A l) (hl : l.length ≤ 1000) :
    Calls Try.prog 13 #[.slice A l.length c] w fun e w' => e = .returned (.tuple #[.pointer (some ⟨w.heap.size + 1 + 1, 0, none⟩), .bool true]) ∧
      Hid (∃ s, Dk.Live w (fun _ => False) w' (w.heap.size + 1 + 1) s ∧ Dk.Calm 0 s) := by
  have HA := Lib.hid hA
  clear hA
  go_enter Try.func13, Try.ntmps13
  go_wp2_with (go_at_call 9; refine (new_live 6 _ (by omega) (by omega)).mono ?_; rintro e w1 ⟨rfl, HL⟩)
  have HC0 : Hid (Dk.Calm 0 (Dk.S.new 6)) := ⟨rfl, rfl, rfl, rfl, Nat.le_refl _⟩
  go_loopw [6] (fun i wr => ∃ (j : Nat) (s : Dk.S), j ≤ l.length ∧ i = .int .i64 j ∧ Hid (Dk.Live w (fun _ => False) wr (w.heap.size + 1 + 1) s) ∧ Hid (Dk.Calm j s)) (fun i _ => l.length - (intOf i).toNat)
  case atStart => exact ⟨0, _, by omega, rfl, HL, HC0⟩
  case round =>
    obtain ⟨j, s, hj, rfl, HLj, HCj⟩ := hrel
    clear HC0 HL
    by_cases h1 : j < l.length
    · have HC := HA.out.below HLj.out.bl
      obtain ⟨b, off, rfl, hbB, hc⟩ := HC (by omega)
      obtain ⟨Ad, Ak, cd, ck, hAj⟩ := hc j h1
      have HX : Hid (∀ w', Below w.heap.size w w' → Dk.ActAt w' (· < w.heap.size) b (off + j * 5) l[j] Ad Ak cd ck) := fun w' hb' => by
        obtain ⟨b', off', e, hbB', hc'⟩ := HA.out (by omega)
        injection e with e
        injection e with e1 e2
        subst e1
        subst e2
        obtain ⟨Ad', Ak', cd', ck', hA'⟩ := hc' j h1
        have hA2 := hA'.below hbB' HLj.out.bl
        have e3 := hA2.c3.symm.trans hAj.c3
        have e4 := hA2.c4.symm.trans hAj.c4
        injection e3 with e3
        injection e3 with e3 _ e3c
        injection e4 with e4
        injection e4 with e4 _ e4c
        subst e3
        subst e3c
        subst e4
        subst e4c
        exact hA'.below hbB' hb'
      clear HC hc hAj
      have HW := Lib.hid (show s.wait.length < 100000 by have := HCj.out.wk; omega)
      have hx0 := (HX.out wr HLj.out.bl).c0
      have hx1 := (HX.out wr HLj.out.bl).c1
      have hx3 := (HX.out wr HLj.out.bl).c3
      have hx4 := (HX.out wr HLj.out.bl).c4
      have HK := Lib.hid (HX.out wr HLj.out.bl)
      generalize l[j] = x at HX hx0 hx1 hx3 hx4 HK
      by_cases hk0 : x.kind = 0
      · rw [hk0] at hx0
        go_wp2_with (fail)
        go_region_held3 (fun w' => w'.cell? ⟨b, off + j * 5 + 1, none⟩ = some (.int .i64 x.i) ∧ w'.cell? ⟨b, off + j * 5 + 3, none⟩ = some (.slice Ad x.data.length cd))
          (first | exact ⟨hx1, hx3⟩ | exact ⟨(HX.out _ HLn.out.bl).c1, (HX.out _ HLn.out.bl).c3⟩ | exact ⟨(HX.out _ HQ.out.1.bl).c1, (HX.out _ HQ.out.1.bl).c3⟩)
          (first
            | (go_at_call 15; refine (full_live HLj.out.drew (HK.out.hd.kept (fun _ _ => rfl)) HK.out.ld).mono ?_; rintro e w5 ⟨rfl, HQ, HSn⟩)
            | (go_at_call 16; refine (write_live _ HQ.out (Dk.length_full _) HW.out (by rw [HCj.out.l0]; omega) (by rw [HCj.out.l0]; omega)).mono ?_; rintro e w6 ⟨rfl, HQn, HSm⟩; have HLn := Lib.hid (HQn.out.1.fewer (Y := fun _ => False) (fun _ h => h.elim)); have HCn := Lib.hid (HCj.out.write x.i (Dk.full x.data))))
        go_wp2
        go_roundw
        case rel => exact ⟨j + 1, _, by omega, by go_num, HLn, HCn⟩
        case measure => simp [intOf]; omega
      · by_cases hk3 : x.kind = 3
        · rw [hk3] at hx0
          clear hk0 hk3
          go_wp2_with (go_at_call 23; refine (flush_calm HLj.out HCj.out.up HCj.out.nf HW.out (by rw [HCj.out.l0]; omega) (by rw [HCj.out.l0]; omega)).mono ?_; rintro e w5 ⟨rfl, HLn, HSn⟩)
          go_roundw
          case rel => exact ⟨j + 1, _, by omega, by go_num, HLn, HCj.out.done.more (by omega)⟩
          case measure => simp [intOf]; omega
        · by_cases hk6 : x.kind = 6
          · rw [hk6] at hx0
            clear hk0 hk3 hk6
            go_wp2_with (go_at_call 19; refine (restart_live HLj.out (HK.out.hk.imp (fun _ h => .inl h)) HW.out).mono ?_; rintro e w5 ⟨rfl, HLn, HSn⟩)
            go_roundw
            case rel => exact ⟨j + 1, _, by omega, by go_num, HLn, (HCj.out.restart _).more (by omega)⟩
            case measure => simp [intOf]; omega
          · have b0 : (x.kind == 0) = false := beq_eq_false_iff_ne.2 hk0
            have b3 : (x.kind == 3) = false := beq_eq_false_iff_ne.2 hk3
            have b6 : (x.kind == 6) = false := beq_eq_false_iff_ne.2 hk6
            clear hk0 hk3 hk6
            go_wp2
            go_roundw
            case rel => exact ⟨j + 1, _, by omega, by go_num, HLj, HCj.out.more (by omega)⟩
            case measure => simp [intOf]; omega
    · have HW := Lib.hid (show s.wait.length < 100000 by have := HCj.out.wk; omega)
      go_wp2_with (first
        | (go_at_call 20; refine (down_live HLj.out).mono ?_; rw [HCj.out.up]; rintro e w4 ⟨rfl, rfl⟩)
        | (go_at_call 23; refine (flush_calm HLj.out HCj.out.up HCj.out.nf HW.out (by rw [HCj.out.l0]; omega) (by rw [HCj.out.l0]; omega)).mono ?_; rintro e w5 ⟨rfl, HLn, HSn⟩)
        | (go_at_call 17; refine (waiting_live HLn.out).mono ?_; rintro e w4 ⟨rfl, rfl⟩))
      go_ret2
      exact ⟨rfl, _, HLn.out, HCj.out.done⟩
end Go.Proofs.Ytngpdjkeoodigaa
