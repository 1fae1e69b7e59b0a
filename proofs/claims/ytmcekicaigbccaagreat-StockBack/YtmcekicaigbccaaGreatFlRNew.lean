/- The document's New. -/
import Derived.Test.YtmcekicaigbccaaGreatFlRgt
namespace Go.Proofs.YtmcekicaigbccaaGreat
open Go.RowKit
set_option linter.unusedVariables false

namespace Fl

open Classical in
noncomputable def newCode (rs : List R) : Int := if rs.all (fun r => right r.f) = true then (if (ks rs).Nodup then 0 else 8) else 4
theorem newCode_wrong {rs : List R} {k : Nat} (hk : k < rs.length) (h : right rs[k].f = false) : newCode rs = 4 := by
  unfold newCode
  rw [if_neg]
  intro hc
  rw [List.all_eq_true] at hc
  rw [hc _ (List.getElem_mem hk)] at h
  cases h
theorem kv_neq {f g : F} : kv f ≠ kv g ↔ f.car ≠ g.car ∨ (f.car = g.car ∧ f.num ≠ g.num) := by
  constructor
  · intro h
    by_cases h1 : f.car = g.car
    · exact .inr ⟨h1, fun h2 => h (by simp [kv, h1, h2])⟩
    · exact .inl h1
  · rintro (h | ⟨_, h⟩) e
    · exact h (kv_inj e).1
    · exact h (kv_inj e).2
theorem ks_get (rs : List R) (i : Nat) (hi : i < (ks rs).length) : (ks rs)[i] = kv (rs[i]'(by simpa [ks] using hi)).f := by simp [ks]
theorem newCode_twice {rs : List R} (hr : ∀ r ∈ rs, right r.f = true) {i j : Nat} (hi : i < rs.length) (hj : j < rs.length) (hij : j < i) (h : kv rs[j].f = kv rs[i].f) : newCode rs = 8 := by
  unfold newCode
  rw [if_pos (by rw [List.all_eq_true]; exact hr), if_neg]
  intro hc
  have hl : ∀ {k} (hk : k < rs.length), k < (ks rs).length := fun hk => by simpa [ks] using hk
  exact List.pairwise_iff_getElem.1 hc j i (hl hj) (hl hi) hij (by rw [ks_get, ks_get]; exact h)
theorem newCode_ok {rs : List R} (hr : ∀ r ∈ rs, right r.f = true) (h : ∀ i j (hi : i < rs.length) (hj : j < i), kv (rs[j]'(by omega)).f ≠ kv rs[i].f) : newCode rs = 0 := by
  unfold newCode
  rw [if_pos (by rw [List.all_eq_true]; exact hr), if_pos]
  refine List.pairwise_iff_getElem.2 fun j i hj hi hij => ?_
  rw [ks_get, ks_get]
  exact h i j (by simpa [ks] using hi) hij
end Fl
theorem rnew_many (A : Option Addr) (n cap : Nat) (w : World) (hn : 64 < n) (hn2 : n ≤ 9223372036854775807) : Calls Tryz.prog 26 #[.slice A n cap] w fun e w' => e = .returned (.int .i64 2) ∧ w = w' := by
  go_enter Tryz.func26, Tryz.ntmps26
  go_wp2
  go_ret
  exact ⟨rfl, rfl⟩
set_option maxHeartbeats 2000000 in
set_option maxRecDepth 20000 in
theorem rnew_any (A : Option Addr) (rs : List Fl.R) (cap B : Nat) (w : World) (h : Fl.Fls w B A rs) (hB : B ≤ w.heap.size) (hn : rs.length ≤ 64) :
    Calls Tryz.prog 26 #[.slice A rs.length cap] w fun e w' => e = .returned (.int .i64 (Fl.newCode rs)) ∧ Below w.heap.size w w' := by
  have HF := Lib.hid h
  have HWr := Lib.hid (fun k (hk : k < rs.length) => Fl.newCode_wrong hk)
  have HTw := Lib.hid (fun (hr : ∀ r ∈ rs, Fl.right r.f = true) i j (hi : i < rs.length) (hj : j < rs.length) (hij : j < i) => Fl.newCode_twice hr hi hj hij)
  have HOk := Lib.hid (fun hr h => Fl.newCode_ok (rs := rs) hr h)
  clear h
  generalize Fl.newCode rs = res at *
  go_enter Tryz.func26, Tryz.ntmps26
  go_wp2
  go_loopw [3] (fun i wr => ∃ (k : Nat), k ≤ rs.length ∧ i = .int .i64 k ∧ Hid (∀ j, j < k → ∀ hj : j < rs.length, Fl.right rs[j].f = true) ∧ Below w.heap.size w wr) (fun i _ => rs.length - (intOf i).toNat)
  case atStart => exact ⟨0, by omega, rfl, (fun j hj => absurd hj (by omega)), Below.refl _ _⟩
  case round =>
    obtain ⟨wx, ewx⟩ : ∃ x, x = wr := ⟨_, rfl⟩
    subst ewx
    obtain ⟨k, hk, rfl, HR, hbr⟩ := hrel
    by_cases hlt : k < rs.length
    · obtain ⟨b, off, hA, hbB, hrow⟩ := HF.out.row (by omega)
      have HRw : Hid (wx.rangeAt b (off + k * 9) (Fl.enc rs[k])) := fun j v hv => (hbr.cell (p := ⟨b, _, none⟩) (show b < w.heap.size by omega)).trans (hrow k hlt j v hv)
      have HRt := Lib.hid (rright_any rs[k] B wx (HF.out.wf _ (List.getElem_mem hlt)) ((HF.out.cls _ (List.getElem_mem hlt)).below hbr hB) (Nat.le_trans hB hbr.size))
      have HY : Hid (Fl.right rs[k].f = true → ∀ j, j < k + 1 → ∀ hj : j < rs.length, Fl.right rs[j].f = true) := fun e j hj hj2 => by
        rcases Nat.lt_or_ge j k with h | h
        · exact HR.out j h hj2
        · have : j = k := by omega
          subst this; exact e
      have HN := Lib.hid (HWr.out k hlt)
      subst hA
      generalize rs[k] = r at *
      clear hrow
      cases hc : Fl.right r.f with
      | true =>
        have HY2 := Lib.hid (HY.out hc)
        rw [hc] at HRt
        clear hc HY HN
        go_wp2_with (first
          | (refine wpList_load_mid rfl 62 _ rfl b (off + k * 9) rfl (Fl.enc r) _ HRw.out Fl.uF Fl.rF Fl.iF ?_)
          | (go_at_call 52; refine HRt.out.mono ?_; rintro e w2 ⟨rfl, hb2⟩))
        go_roundw
        case rel => exact ⟨k + 1, by omega, by go_num, HY2, hbr.trans (hb2.mono hbr.size)⟩
        case measure => simp [intOf]; omega
      | false =>
        have HN2 := Lib.hid (HN.out hc)
        rw [hc] at HRt
        clear hc HY HN
        go_wp2_with (first
          | (refine wpList_load_mid rfl 62 _ rfl b (off + k * 9) rfl (Fl.enc r) _ HRw.out Fl.uF Fl.rF Fl.iF ?_)
          | (go_at_call 52; refine HRt.out.mono ?_; rintro e w2 ⟨rfl, hb2⟩))
        go_ret
        exact ⟨by (have e := HN2.out; subst e; rfl), hbr.trans (hb2.mono hbr.size)⟩
    · have HAll : Hid (∀ r ∈ rs, Fl.right r.f = true) := fun r hr => by
        obtain ⟨j, hj, rfl⟩ := List.getElem_of_mem hr
        exact HR.out j (by omega) hj
      have HTw2 := Lib.hid (HTw.out HAll.out)
      have HOk2 := Lib.hid (HOk.out HAll.out)
      clear HR HWr HTw HOk
      go_wp2
      go_loopw [4] (fun i wr => ∃ (k : Nat), k ≤ rs.length ∧ i = .int .i64 k ∧ Hid (∀ i, i < k → ∀ (hi : i < rs.length) j (hj : j < i), Fl.kv (rs[j]'(by omega)).f ≠ Fl.kv rs[i].f) ∧ Below w.heap.size w wr) (fun i _ => rs.length - (intOf i).toNat)
      case atStart => exact ⟨0, by omega, rfl, (fun j hj => absurd hj (by omega)), hbr⟩
      case round =>
        obtain ⟨wy, ewy⟩ : ∃ x, x = wr := ⟨_, rfl⟩
        subst ewy
        obtain ⟨k2, hk2, rfl, HU, hbr2⟩ := hrel
        by_cases hlt2 : k2 < rs.length
        · go_wp2
          go_loopw [5] (fun i wr => ∃ (m : Nat), m ≤ k2 ∧ i = .int .i64 m ∧ Hid (∀ j, j < m → ∀ hj : j < rs.length, Fl.kv rs[j].f ≠ Fl.kv rs[k2].f) ∧ Below w.heap.size w wr) (fun i _ => k2 - (intOf i).toNat)
          case atStart => exact ⟨0, by omega, rfl, (fun j hj => absurd hj (by omega)), hbr2⟩
          case round =>
            obtain ⟨wz, ewz⟩ : ∃ x, x = wr := ⟨_, rfl⟩
            subst ewz
            obtain ⟨m, hm, rfl, HV, hbr3⟩ := hrel
            by_cases hlt3 : m < k2
            · have hm3 : m < rs.length := by omega
              obtain ⟨b, off, hA, hbB, hrow⟩ := HF.out.row (by omega)
              have HR1 : Hid (wz.rangeAt b (off + m * 9) (Fl.enc rs[m])) := fun j v hv => (hbr3.cell (p := ⟨b, _, none⟩) (show b < w.heap.size by omega)).trans (hrow m hm3 j v hv)
              have HR2 : Hid (wz.rangeAt b (off + k2 * 9) (Fl.enc rs[k2])) := fun j v hv => (hbr3.cell (p := ⟨b, _, none⟩) (show b < w.heap.size by omega)).trans (hrow k2 hlt2 j v hv)
              have c0 : ∀ q, (wz.drewN q).cell? ⟨b, off + m * 9, none⟩ = some (.string rs[m].f.car) := fun q => (Fl.enc_cell HR1.out).1
              have c1 : ∀ q, (wz.drewN q).cell? ⟨b, off + m * 9 + 1, none⟩ = some (.int .i64 rs[m].f.num) := fun q => (Fl.enc_cell HR1.out).2
              have d0 : ∀ q, (wz.drewN q).cell? ⟨b, off + k2 * 9, none⟩ = some (.string rs[k2].f.car) := fun q => (Fl.enc_cell HR2.out).1
              have d1 : ∀ q, (wz.drewN q).cell? ⟨b, off + k2 * 9 + 1, none⟩ = some (.int .i64 rs[k2].f.num) := fun q => (Fl.enc_cell HR2.out).2
              have HTT := Lib.hid (HTw2.out k2 m hlt2 hm3 hlt3)
              have HVV : Hid (Fl.kv rs[m].f ≠ Fl.kv rs[k2].f → ∀ j, j < m + 1 → ∀ hj : j < rs.length, Fl.kv rs[j].f ≠ Fl.kv rs[k2].f) := fun e j hj hj2 => by
                rcases Nat.lt_or_ge j m with h | h
                · exact HV.out j h hj2
                · have : j = m := by omega
                  subst this; exact e
              have hbn : ∀ q, Below w.heap.size w (wz.drewN q) := fun q => Fl.below_drewN hbr3 q
              rw [hA]
              clear hrow
              generalize rs[m].f = f at *
              by_cases he : Fl.kv f = Fl.kv rs[k2].f
              · have HT3 := Lib.hid (HTT.out he)
                obtain ⟨e1, e2⟩ := Fl.kv_inj he
                have s1 := Fl.str_eq e1
                have s2 : (f.num == rs[k2].f.num) = true := by simp [e2]
                clear he e1 e2 HVV HTT HR1 HR2
                generalize rs[k2].f = g at *
                clear HV
                go_wp2
                go_quiet (fail)
                go_wp2
                go_ret
                exact ⟨by (have e := HT3.out; subst e; rfl), hbn _⟩
              · have HV3 := Lib.hid (HVV.out he)
                rcases Fl.kv_neq.1 he with e1 | ⟨e1, e2⟩
                · have s1 := Fl.str_ne e1
                  clear he e1 HVV HTT HR1 HR2
                  go_wp2
                  go_quiet (fail)
                  go_wp2
                  go_roundw
                  case rel => exact ⟨m + 1, by omega, by go_num, HV3, hbn _⟩
                  case measure => simp [intOf]; omega
                · have s1 := Fl.str_eq e1
                  have s2 : (f.num == rs[k2].f.num) = false := by simp [e2]
                  clear he e1 e2 HVV HTT HR1 HR2
                  go_wp2
                  go_quiet (fail)
                  go_wp2
                  go_roundw
                  case rel => exact ⟨m + 1, by omega, by go_num, HV3, hbn _⟩
                  case measure => simp [intOf]; omega
            · have HU2 : Hid (∀ i, i < k2 + 1 → ∀ (hi : i < rs.length) j (hj : j < i), Fl.kv (rs[j]'(by omega)).f ≠ Fl.kv rs[i].f) := fun i hi hi2 j hj => by
                rcases Nat.lt_or_ge i k2 with h | h
                · exact HU.out i h hi2 j hj
                · have : i = k2 := by omega
                  subst this
                  exact HV.out j (by omega) (by omega)
              go_wp2
              go_roundw
              case rel => exact ⟨k2 + 1, by omega, by go_num, HU2, hbr3⟩
              case measure => simp [intOf]; omega
        · have HO3 : Hid (res = 0) := HOk2.out (fun i j hi hj => HU.out i (by omega) hi j hj)
          go_wp2
          go_ret
          exact ⟨by (have e := HO3.out; subst e; rfl), hbr2⟩
end Go.Proofs.YtmcekicaigbccaaGreat
