/- Contract of the document's Marks. -/
import Derived.Test.YtonfkonjkgalhaaDoorPlRse
import Derived.Deep.CutRange
namespace Go.Proofs.YtonfkonjkgalhaaDoor
open Go.RowKit Go.WideMaps
set_option linter.unusedVariables false

namespace Pl
theorem ex_rise {p : P} (h : exitsOk p = true) : ∀ k, k < p.ex.length → ∀ j, j < k → gI p.ex j < gI p.ex k := by
  intro k
  induction k with
  | zero => intro _ j hj; omega
  | succ k ih =>
    intro hk j hj
    unfold exitsOk at h
    have h1 := List.all_eq_true.1 h (k + 1) (by simpa using hk)
    unfold exOk at h1
    simp at h1
    have h2 := h1.2
    rcases Nat.lt_or_ge j k with h3 | h3
    · have := ih (by omega) j h3; omega
    · rw [show j = k by omega]; exact h2
theorem take_no {l : List Int} {k : Nat} (hk : k < l.length) (h : ∀ j, j < k → gI l j < gI l k) : (l.take k).contains (gI l k) = false := by
  rw [Bool.eq_false_iff]
  intro hc
  rw [List.contains_iff_mem] at hc
  obtain ⟨j, hj, e⟩ := List.getElem_of_mem hc
  rw [List.length_take] at hj
  rw [List.getElem_take, gI_get l j (by omega)] at e
  have := h j (by omega)
  omega
theorem take_has2 {l : List Int} {row : Int} {k : Nat} (h : k < l.length) : (l.take (k + 1)).contains row = ((l.take k).contains row || (gI l k == row)) := by
  rw [List.take_succ_eq_append_getElem h, gI_get l k h, Bool.eq_iff_iff]
  simp only [List.contains_iff_mem, List.mem_append, List.mem_singleton, Bool.or_eq_true, beq_iff_eq]
  exact or_congr Iff.rfl ⟨Eq.symm, Eq.symm⟩
/-- What is known of a text with points around. -/
structure Dots (s t : ByteArray) : Prop where
  sz : t.size = s.size + 2
  at_ : ∀ j, j < s.size → Cd.bt t (j + 1) = Cd.bt s j
theorem dots (s : ByteArray) : Dots s ((⟨#[46]⟩ : ByteArray) ++ s ++ ⟨#[46]⟩) := by
  have e : Cd.bs ((⟨#[46]⟩ : ByteArray) ++ s ++ ⟨#[46]⟩) = 46 :: (Cd.bs s ++ [46]) := by rw [bs_append, bs_append]; rfl
  refine ⟨?_, fun j hj => ?_⟩
  · rw [← Cd.length_bs, e]; simp [Cd.length_bs]
  · unfold Cd.bt
    rw [e, List.getD_cons_succ, List.getD_eq_getElem?_getD, List.getD_eq_getElem?_getD, List.getElem?_append_left (by rw [Cd.length_bs]; exact hj)]
def mkW (p : P) (i : Nat) : ByteArray := ap (win p i) 87 ⟨#[]⟩
def mkA (p : P) (i : Nat) : ByteArray := ap (ail p i) 65 (mkW p i)
theorem mkA_size (p : P) (i : Nat) : (mkA p i).size ≤ 3 := by
  unfold mkA mkW
  cases ail p i <;> cases win p i <;> decide
theorem seat_col {p : P} (hl : lettersOk p.lt = true) {s : S} (h : hasS p s = true) : ∃ i, i < p.lt.size ∧ Cd.bt p.lt i = s.2 ∧ mkS p s = marks p s.1 i ∧ ∀ j, j < p.lt.size → j ≠ i → Cd.bt p.lt j ≠ s.2 := by
  have h1 := (mem_all.1 (hasS_mem h)).2
  rw [← lets_cols] at h1
  obtain ⟨i, hi, e⟩ := List.mem_map.1 h1
  obtain ⟨i1, i2⟩ := cols_mem.1 hi
  refine ⟨i, i1, e, ?_, fun j hj hne hb => ?_⟩
  · unfold mkS
    rw [h, if_pos rfl, ← e, col_ix hl hi]
  · exact hne (cols_inj hl (cols_mem.2 ⟨hj, by rw [hb, ← e]; exact i2⟩) hi (by rw [hb, e]))
end Pl
set_option maxHeartbeats 4000000 in
set_option maxRecDepth 20000 in
theorem rmark_any (r : Pl.R) (s : Pl.S) (B : Nat) (w : World) (hw : Pl.Wf r) (he : Pl.Ints w B r.eA r.p.ex) (hbl : Pl.Sts w B r.bA r.p.bl) (hB : B ≤ w.heap.size) (hr : Pl.right r.p = true) :
    Calls Tryd.prog 28 #[Pl.pv r, Pl.sv s] w fun e w' => e = .returned (.string (Pl.mkS r.p s)) ∧ Below w.heap.size w w' := by
  obtain ⟨ho, hl⟩ := Pl.right_parts hr
  have hxo : Pl.exitsOk r.p = true := by unfold Pl.right at hr; simp only [Bool.and_eq_true] at hr; exact hr.1.2
  have HHS := Lib.hid (fun (W : World) (hb : Below w.heap.size w W) => rhas_any r s B W hw (hbl.below hb hB) (Nat.le_trans hB hb.size) ho hl)
  have hs20 : r.p.lt.size ≤ 20 := by have := (Pl.lf_len _ _ _ _ hl (by omega)).1; rw [Cd.length_bs] at this; exact this
  have hel := hw.e
  have HRI := Lib.hid (Pl.ex_rise hxo)
  have HE := Lib.hid he
  have e0 : Pl.pv r = .agg (Pl.enc r).toArray := rfl
  by_cases hh : Pl.hasS r.p s = true
  case neg =>
    have hh' : Pl.hasS r.p s = false := by simpa using hh
    have HN : Hid (Pl.mkS r.p s = ⟨#[]⟩) := show _ = _ by unfold Pl.mkS; rw [hh']; rfl
    rw [hh'] at HHS
    obtain ⟨s1, s2⟩ := s
    have e1 : Pl.sv (s1, s2) = .agg #[.int .i64 s1, .int .u8 s2] := rfl
    rw [e0, e1] at HHS ⊢
    clear e0 e1 he hbl hw hr ho hl hxo hh hh'
    generalize Pl.mkS r.p (s1, s2) = res at *
    go_enter Tryd.func28, Tryd.ntmps28
    go_wp2_with (first
    | (refine Rw.wpList_box rfl 32 _ rfl (Pl.enc r) rfl ?_; intro w1 K1 b1 z1; have HB1 := Lib.hid b1; have HK1 := Lib.hid K1; clear z1 K1 b1)
    | (refine Rw.wpList_box rfl 23 _ rfl [.int .i64 s1, .int .u8 s2] rfl ?_; intro w2 K2 b2 z2; have HB2 := Lib.hid (HB1.out.trans (b2.mono HB1.out.size)); have HK2 := Lib.hid K2; have HK12 := Lib.hid (HK1.out.below' b2); clear z2 K2 b2)
    | (refine wpList_load_mid rfl 32 _ rfl w.heap.size 0 rfl (Pl.enc r) _ HK12.out.range Pl.uP Pl.rP Pl.iP ?_)
    | (refine wpList_load_mid rfl 23 _ rfl w1.heap.size 0 rfl [.int .i64 s1, .int .u8 s2] _ HK2.out.range Pl.uS Pl.rS Pl.iSeat ?_)
    | (go_at_call 24; refine (HHS.out w2 HB2.out).mono ?_; rintro e w3 ⟨rfl, hb3⟩; have HB3 := Lib.hid (HB2.out.trans (hb3.mono HB2.out.size)); have HK3 := Lib.hid (HK12.out.below' hb3); have HS3 := Lib.hid (HK2.out.below' hb3); clear hb3))
    go_ret
    exact ⟨Pl.ret_str HN.out.symm, HB3.out⟩
  case pos =>
  obtain ⟨i0, h1, h2, h3, h4⟩ := Pl.seat_col hl hh
  have HMS : Hid (Pl.mkS r.p s = Pl.ap (r.p.ex.contains s.1) 69 (Pl.mkA r.p i0)) := h3
  have HMA : Hid (Pl.mkA r.p i0 = Pl.ap (Pl.ail r.p i0) 65 (Pl.mkW r.p i0)) := show _ = _ by rfl
  have HMW : Hid (Pl.mkW r.p i0 = Pl.ap (Pl.win r.p i0) 87 ⟨#[]⟩) := show _ = _ by rfl
  have HWN : Hid (Pl.win r.p i0 = (decide (i0 = 0) || decide (i0 + 1 = r.p.lt.size))) := show _ = _ by rfl
  have HAI : Hid (Pl.ail r.p i0 = ((decide (0 < i0) && decide (Cd.bt r.p.lt (i0 - 1) = 46)) || (decide (i0 + 1 < r.p.lt.size) && decide (Cd.bt r.p.lt (i0 + 1) = 46)))) := show _ = _ by rfl
  have HC0 := Lib.hid h2
  have HCN := Lib.hid h4
  have HTK : Hid (∀ k, k < r.p.ex.length → (r.p.ex.take (k + 1)).contains s.1 = ((r.p.ex.take k).contains s.1 || (Pl.gI r.p.ex k == s.1))) := fun k hk => Pl.take_has2 hk
  have HTN : Hid (∀ k, k < r.p.ex.length → Pl.gI r.p.ex k = s.1 → (r.p.ex.take k).contains s.1 = false) := fun k hk e => by rw [← e]; exact Pl.take_no hk (HRI.out k hk)
  have HTE : Hid ((r.p.ex.take r.p.ex.length).contains s.1 = r.p.ex.contains s.1) := show _ = _ by rw [List.take_length]
  have hms : (Pl.mkA r.p i0).size ≤ 3 := Pl.mkA_size _ _
  rw [hh] at HHS
  obtain ⟨s1, s2⟩ := s
  have e1 : Pl.sv (s1, s2) = .agg #[.int .i64 s1, .int .u8 s2] := rfl
  rw [e0, e1] at HHS ⊢
  simp only at HMS HC0 HCN HTK HTN HTE
  clear e0 e1 he hbl hw hr ho hl hxo hh h2 h3 h4
  generalize Pl.mkS r.p (s1, s2) = res at *
  generalize Pl.mkA r.p i0 = MA at *
  generalize Pl.mkW r.p i0 = MW at *
  have HDT := Lib.hid (Pl.dots r.p.lt)
  go_enter Tryd.func28, Tryd.ntmps28
  go_upto_region 4 with (first
    | (refine Rw.wpList_box rfl 32 _ rfl (Pl.enc r) rfl ?_; intro w1 K1 b1 z1; have HB1 := Lib.hid b1; have HK1 := Lib.hid K1; clear z1 K1 b1)
    | (refine Rw.wpList_box rfl 23 _ rfl [.int .i64 s1, .int .u8 s2] rfl ?_; intro w2 K2 b2 z2; have HB2 := Lib.hid (HB1.out.trans (b2.mono HB1.out.size)); have HK2 := Lib.hid K2; have HK12 := Lib.hid (HK1.out.below' b2); clear z2 K2 b2)
    | (refine wpList_load_mid rfl 32 _ rfl w.heap.size 0 rfl (Pl.enc r) _ HK12.out.range Pl.uP Pl.rP Pl.iP ?_)
    | (refine wpList_load_mid rfl 23 _ rfl w1.heap.size 0 rfl [.int .i64 s1, .int .u8 s2] _ HK2.out.range Pl.uS Pl.rS Pl.iSeat ?_)
    | (go_at_call 24; refine (HHS.out w2 HB2.out).mono ?_; rintro e w3 ⟨rfl, hb3⟩; have HB3 := Lib.hid (HB2.out.trans (hb3.mono HB2.out.size)); have HK3 := Lib.hid (HK12.out.below' hb3); have HS3 := Lib.hid (HK2.out.below' hb3); clear hb3))
  have q2 : w3.cell? ⟨w.heap.size, 2, none⟩ = some (.string r.p.lt) := (HK3.out.cell 2).trans rfl
  go_cut [6] from 9 to 16 (fun s6 wx => ∃ t : ByteArray, s6 = .string t ∧ Hid (Pl.Dots r.p.lt t) ∧ wx = w3)
  case first =>
    go_wp2
    go_meet
    exact ⟨_, rfl, HDT, rfl⟩
  case rest =>
    obtain ⟨t, rfl, HT, ew⟩ := hcut
    subst ew
    obtain ⟨w4, e4⟩ : ∃ x, x = wc := ⟨_, rfl⟩
    subst e4
    have HDA : Hid (∀ j, j < r.p.lt.size → Cd.bt t (j + 1) = Cd.bt r.p.lt j) := HT.out.at_
    have hz1 : (t.size : Int) - 1 = (r.p.lt.size : Int) + 1 := by have := HT.out.sz; omega
    have hz2 : (t.size : Int) - 2 = (r.p.lt.size : Int) := by have := HT.out.sz; omega
    have hgt := Cd.get_bt t
    clear q2
    go_wp2
    go_loopw [5, 7] (fun mv i wr => ∃ (i1 : Nat) (m : ByteArray), 1 ≤ i1 ∧ i1 ≤ r.p.lt.size + 1 ∧ i = .int .i64 i1 ∧ mv = .string m ∧ Hid (m = if i0 + 1 < i1 then MA else ⟨#[]⟩) ∧ Hid (Below w4.heap.size w4 wr)) (fun _ i _ => r.p.lt.size + 1 - (intOf i).toNat)
    case atStart => exact ⟨1, _, by omega, by omega, rfl, rfl, show _ = _ by rw [if_neg (by omega)], Below.refl _ _⟩
    case round =>
      obtain ⟨wa, ea⟩ : ∃ x, x = wr := ⟨_, rfl⟩
      subst ea
      obtain ⟨i1, m, hi1, hi2, rfl, rfl, HM, HBa⟩ := hrel
      have HSa := Lib.hid (HS3.out.below' HBa.out)
      by_cases hlt : i1 < r.p.lt.size + 1
      · have hlti : (i1 : Int) < (r.p.lt.size : Int) + 1 := by omega
        have hit : i1 < t.size := by have := HT.out.sz; omega
        have cs : ∀ q, (wa.drewN q).cell? ⟨w1.heap.size, 1, none⟩ = some (.int .u8 s2) := fun q => (HSa.out.cell 1).trans rfl
        by_cases hi : i1 = i0 + 1
        · have hd : (Cd.bt t i1 != s2) = false := by rw [hi, HDA.out i0 h1, HC0.out]; simp
          have hd' : (Cd.bt t i1 == s2) = true := by rw [hi, HDA.out i0 h1, HC0.out]; simp
          have hm0 := HM.out
          rw [if_neg (by omega)] at hm0
          subst hm0
          by_cases hAo : i0 = 0
          · have hA1 : ((i1 : Int) == 1) = true := by rw [beq_iff_eq]; omega
            have hA2 : decide ((1 : Int) < (i1 : Int)) = false := decide_eq_false (by omega)
            have hA3 : decide (1 < i1) = false := decide_eq_false (by omega)
            by_cases hBo : i0 + 1 = r.p.lt.size
            · have hB1 : ((i1 : Int) == (r.p.lt.size : Int)) = true := by rw [beq_iff_eq]; omega
              have hB2 : decide ((i1 : Int) < (r.p.lt.size : Int)) = false := decide_eq_false (by omega)
              have hB3 : decide (i1 < r.p.lt.size) = false := decide_eq_false (by omega)
              have d1 : decide (i0 = 0) = true := decide_eq_true (by omega)
              have d2 : decide (i0 + 1 = r.p.lt.size) = true := decide_eq_true (by omega)
              have d3 : decide (0 < i0) = false := decide_eq_false (by omega)
              have d5 : decide (i0 + 1 < r.p.lt.size) = false := decide_eq_false (by omega)
              have HV : Hid (MA = Pl.ap false 65 (Pl.ap true 87 ⟨#[]⟩)) := show _ = _ by rw [HMA.out, HMW.out, HWN.out, HAI.out, d1, d2, d3, d5]; rfl
              have HR : Hid (Pl.ap false 65 (Pl.ap true 87 ⟨#[]⟩) = if i0 + 1 < i1 + 1 then MA else ⟨#[]⟩) := show _ = _ by rw [if_pos (by omega), HV.out]
              clear hAo hBo hi d1 d2 d3 d5
              go_wp2
              go_quiet (fail)
              go_wp2
              go_roundw
              case rel => exact ⟨i1 + 1, _, by omega, by omega, by go_num, rfl, HR, Pl.below_drewN HBa.out _⟩
              case measure => simp [intOf]; omega
            · have hB1 : ((i1 : Int) == (r.p.lt.size : Int)) = false := by rw [beq_eq_false_iff_ne]; omega
              have hB2 : decide ((i1 : Int) < (r.p.lt.size : Int)) = true := decide_eq_true (by omega)
              have hB3 : decide (i1 < r.p.lt.size) = true := decide_eq_true (by omega)
              have hnx : i0 + 1 < r.p.lt.size := by omega
              have HQB := Lib.hid (HDA.out (i0 + 1) hnx)
              have hnt : i1 + 1 < t.size := by have := HT.out.sz; omega
              by_cases hqo : Cd.bt r.p.lt (i0 + 1) = 46
              · have hq1 : (Cd.bt t (i1 + 1) == 46) = true := by rw [hi, HQB.out, hqo]; rfl
                have d1 : decide (i0 = 0) = true := decide_eq_true (by omega)
                have d2 : decide (i0 + 1 = r.p.lt.size) = false := decide_eq_false (by omega)
                have d3 : decide (0 < i0) = false := decide_eq_false (by omega)
                have d5 : decide (i0 + 1 < r.p.lt.size) = true := decide_eq_true (by omega)
                have d6 : decide (Cd.bt r.p.lt (i0 + 1) = 46) = true := decide_eq_true hqo
                have HV : Hid (MA = Pl.ap true 65 (Pl.ap true 87 ⟨#[]⟩)) := show _ = _ by rw [HMA.out, HMW.out, HWN.out, HAI.out, d1, d2, d3, d5, d6]; rfl
                have HR : Hid (Pl.ap true 65 (Pl.ap true 87 ⟨#[]⟩) = if i0 + 1 < i1 + 1 then MA else ⟨#[]⟩) := show _ = _ by rw [if_pos (by omega), HV.out]
                clear hAo hBo hi d1 d2 d3 d5 d6
                clear hqo
                go_wp2
                go_quiet (fail)
                go_wp2
                go_roundw
                case rel => exact ⟨i1 + 1, _, by omega, by omega, by go_num, rfl, HR, Pl.below_drewN HBa.out _⟩
                case measure => simp [intOf]; omega
              · have hq1 : (Cd.bt t (i1 + 1) == 46) = false := by rw [hi, HQB.out]; simp [hqo]
                have d1 : decide (i0 = 0) = true := decide_eq_true (by omega)
                have d2 : decide (i0 + 1 = r.p.lt.size) = false := decide_eq_false (by omega)
                have d3 : decide (0 < i0) = false := decide_eq_false (by omega)
                have d5 : decide (i0 + 1 < r.p.lt.size) = true := decide_eq_true (by omega)
                have d6 : decide (Cd.bt r.p.lt (i0 + 1) = 46) = false := decide_eq_false hqo
                have HV : Hid (MA = Pl.ap false 65 (Pl.ap true 87 ⟨#[]⟩)) := show _ = _ by rw [HMA.out, HMW.out, HWN.out, HAI.out, d1, d2, d3, d5, d6]; rfl
                have HR : Hid (Pl.ap false 65 (Pl.ap true 87 ⟨#[]⟩) = if i0 + 1 < i1 + 1 then MA else ⟨#[]⟩) := show _ = _ by rw [if_pos (by omega), HV.out]
                clear hAo hBo hi d1 d2 d3 d5 d6
                clear hqo
                go_wp2
                go_quiet (fail)
                go_wp2
                go_roundw
                case rel => exact ⟨i1 + 1, _, by omega, by omega, by go_num, rfl, HR, Pl.below_drewN HBa.out _⟩
                case measure => simp [intOf]; omega
          · have hA1 : ((i1 : Int) == 1) = false := by rw [beq_eq_false_iff_ne]; omega
            have hA2 : decide ((1 : Int) < (i1 : Int)) = true := decide_eq_true (by omega)
            have hA3 : decide (1 < i1) = true := decide_eq_true (by omega)
            obtain ⟨jp, hjp⟩ : ∃ jp, i1 = jp + 1 := ⟨i1 - 1, by omega⟩
            have hjw : (i1 : Int) - 1 = (jp : Int) := by omega
            have hjt : jp < t.size := by have := HT.out.sz; omega
            have hbp : Cd.bt t jp = Cd.bt r.p.lt (i0 - 1) := by have := HDA.out (i0 - 1) (by omega); rw [show jp = i0 - 1 + 1 by omega]; exact this
            have HBP := Lib.hid hbp
            clear hbp hjp
            by_cases hpo : Cd.bt r.p.lt (i0 - 1) = 46
            · have hp1 : (Cd.bt t jp == 46) = true := by rw [HBP.out, hpo]; rfl
              by_cases hBo : i0 + 1 = r.p.lt.size
              · have hB1 : ((i1 : Int) == (r.p.lt.size : Int)) = true := by rw [beq_iff_eq]; omega
                have hB2 : decide ((i1 : Int) < (r.p.lt.size : Int)) = false := decide_eq_false (by omega)
                have hB3 : decide (i1 < r.p.lt.size) = false := decide_eq_false (by omega)
                have d1 : decide (i0 = 0) = false := decide_eq_false (by omega)
                have d2 : decide (i0 + 1 = r.p.lt.size) = true := decide_eq_true (by omega)
                have d3 : decide (0 < i0) = true := decide_eq_true (by omega)
                have d5 : decide (i0 + 1 < r.p.lt.size) = false := decide_eq_false (by omega)
                have d4 : decide (Cd.bt r.p.lt (i0 - 1) = 46) = true := decide_eq_true hpo
                have HV : Hid (MA = Pl.ap true 65 (Pl.ap true 87 ⟨#[]⟩)) := show _ = _ by rw [HMA.out, HMW.out, HWN.out, HAI.out, d1, d2, d3, d5, d4]; rfl
                have HR : Hid (Pl.ap true 65 (Pl.ap true 87 ⟨#[]⟩) = if i0 + 1 < i1 + 1 then MA else ⟨#[]⟩) := show _ = _ by rw [if_pos (by omega), HV.out]
                clear hAo hBo hi d1 d2 d3 d5 d4
                clear hpo
                go_wp2
                go_quiet (fail)
                go_wp2
                go_roundw
                case rel => exact ⟨i1 + 1, _, by omega, by omega, by go_num, rfl, HR, Pl.below_drewN HBa.out _⟩
                case measure => simp [intOf]; omega
              · have hB1 : ((i1 : Int) == (r.p.lt.size : Int)) = false := by rw [beq_eq_false_iff_ne]; omega
                have hB2 : decide ((i1 : Int) < (r.p.lt.size : Int)) = true := decide_eq_true (by omega)
                have hB3 : decide (i1 < r.p.lt.size) = true := decide_eq_true (by omega)
                have d1 : decide (i0 = 0) = false := decide_eq_false (by omega)
                have d2 : decide (i0 + 1 = r.p.lt.size) = false := decide_eq_false (by omega)
                have d3 : decide (0 < i0) = true := decide_eq_true (by omega)
                have d5 : decide (i0 + 1 < r.p.lt.size) = true := decide_eq_true (by omega)
                have d4 : decide (Cd.bt r.p.lt (i0 - 1) = 46) = true := decide_eq_true hpo
                have HV : Hid (MA = Pl.ap true 65 (Pl.ap false 87 ⟨#[]⟩)) := show _ = _ by rw [HMA.out, HMW.out, HWN.out, HAI.out, d1, d2, d3, d5, d4]; rfl
                have HR : Hid (Pl.ap true 65 (Pl.ap false 87 ⟨#[]⟩) = if i0 + 1 < i1 + 1 then MA else ⟨#[]⟩) := show _ = _ by rw [if_pos (by omega), HV.out]
                clear hAo hBo hi d1 d2 d3 d5 d4
                clear hpo
                go_wp2
                go_quiet (fail)
                go_wp2
                go_roundw
                case rel => exact ⟨i1 + 1, _, by omega, by omega, by go_num, rfl, HR, Pl.below_drewN HBa.out _⟩
                case measure => simp [intOf]; omega
            · have hp1 : (Cd.bt t jp == 46) = false := by rw [HBP.out]; simp [hpo]
              by_cases hBo : i0 + 1 = r.p.lt.size
              · have hB1 : ((i1 : Int) == (r.p.lt.size : Int)) = true := by rw [beq_iff_eq]; omega
                have hB2 : decide ((i1 : Int) < (r.p.lt.size : Int)) = false := decide_eq_false (by omega)
                have hB3 : decide (i1 < r.p.lt.size) = false := decide_eq_false (by omega)
                have d1 : decide (i0 = 0) = false := decide_eq_false (by omega)
                have d2 : decide (i0 + 1 = r.p.lt.size) = true := decide_eq_true (by omega)
                have d3 : decide (0 < i0) = true := decide_eq_true (by omega)
                have d5 : decide (i0 + 1 < r.p.lt.size) = false := decide_eq_false (by omega)
                have d4 : decide (Cd.bt r.p.lt (i0 - 1) = 46) = false := decide_eq_false hpo
                have HV : Hid (MA = Pl.ap false 65 (Pl.ap true 87 ⟨#[]⟩)) := show _ = _ by rw [HMA.out, HMW.out, HWN.out, HAI.out, d1, d2, d3, d5, d4]; rfl
                have HR : Hid (Pl.ap false 65 (Pl.ap true 87 ⟨#[]⟩) = if i0 + 1 < i1 + 1 then MA else ⟨#[]⟩) := show _ = _ by rw [if_pos (by omega), HV.out]
                clear hAo hBo hi d1 d2 d3 d5 d4
                clear hpo
                go_wp2
                go_quiet (fail)
                go_wp2
                go_roundw
                case rel => exact ⟨i1 + 1, _, by omega, by omega, by go_num, rfl, HR, Pl.below_drewN HBa.out _⟩
                case measure => simp [intOf]; omega
              · have hB1 : ((i1 : Int) == (r.p.lt.size : Int)) = false := by rw [beq_eq_false_iff_ne]; omega
                have hB2 : decide ((i1 : Int) < (r.p.lt.size : Int)) = true := decide_eq_true (by omega)
                have hB3 : decide (i1 < r.p.lt.size) = true := decide_eq_true (by omega)
                have hnx : i0 + 1 < r.p.lt.size := by omega
                have HQB := Lib.hid (HDA.out (i0 + 1) hnx)
                have hnt : i1 + 1 < t.size := by have := HT.out.sz; omega
                by_cases hqo : Cd.bt r.p.lt (i0 + 1) = 46
                · have hq1 : (Cd.bt t (i1 + 1) == 46) = true := by rw [hi, HQB.out, hqo]; rfl
                  have d1 : decide (i0 = 0) = false := decide_eq_false (by omega)
                  have d2 : decide (i0 + 1 = r.p.lt.size) = false := decide_eq_false (by omega)
                  have d3 : decide (0 < i0) = true := decide_eq_true (by omega)
                  have d5 : decide (i0 + 1 < r.p.lt.size) = true := decide_eq_true (by omega)
                  have d4 : decide (Cd.bt r.p.lt (i0 - 1) = 46) = false := decide_eq_false hpo
                  have d6 : decide (Cd.bt r.p.lt (i0 + 1) = 46) = true := decide_eq_true hqo
                  have HV : Hid (MA = Pl.ap true 65 (Pl.ap false 87 ⟨#[]⟩)) := show _ = _ by rw [HMA.out, HMW.out, HWN.out, HAI.out, d1, d2, d3, d5, d4, d6]; rfl
                  have HR : Hid (Pl.ap true 65 (Pl.ap false 87 ⟨#[]⟩) = if i0 + 1 < i1 + 1 then MA else ⟨#[]⟩) := show _ = _ by rw [if_pos (by omega), HV.out]
                  clear hAo hBo hi d1 d2 d3 d5 d4 d6
                  clear hpo
                  clear hqo
                  go_wp2
                  go_quiet (fail)
                  go_wp2
                  go_roundw
                  case rel => exact ⟨i1 + 1, _, by omega, by omega, by go_num, rfl, HR, Pl.below_drewN HBa.out _⟩
                  case measure => simp [intOf]; omega
                · have hq1 : (Cd.bt t (i1 + 1) == 46) = false := by rw [hi, HQB.out]; simp [hqo]
                  have d1 : decide (i0 = 0) = false := decide_eq_false (by omega)
                  have d2 : decide (i0 + 1 = r.p.lt.size) = false := decide_eq_false (by omega)
                  have d3 : decide (0 < i0) = true := decide_eq_true (by omega)
                  have d5 : decide (i0 + 1 < r.p.lt.size) = true := decide_eq_true (by omega)
                  have d4 : decide (Cd.bt r.p.lt (i0 - 1) = 46) = false := decide_eq_false hpo
                  have d6 : decide (Cd.bt r.p.lt (i0 + 1) = 46) = false := decide_eq_false hqo
                  have HV : Hid (MA = Pl.ap false 65 (Pl.ap false 87 ⟨#[]⟩)) := show _ = _ by rw [HMA.out, HMW.out, HWN.out, HAI.out, d1, d2, d3, d5, d4, d6]; rfl
                  have HR : Hid (Pl.ap false 65 (Pl.ap false 87 ⟨#[]⟩) = if i0 + 1 < i1 + 1 then MA else ⟨#[]⟩) := show _ = _ by rw [if_pos (by omega), HV.out]
                  clear hAo hBo hi d1 d2 d3 d5 d4 d6
                  clear hpo
                  clear hqo
                  go_wp2
                  go_quiet (fail)
                  go_wp2
                  go_roundw
                  case rel => exact ⟨i1 + 1, _, by omega, by omega, by go_num, rfl, HR, Pl.below_drewN HBa.out _⟩
                  case measure => simp [intOf]; omega
        · have hne : Cd.bt t i1 ≠ s2 := by
            have e := HDA.out (i1 - 1) (by omega)
            rw [Nat.sub_add_cancel hi1] at e
            rw [e]
            exact HCN.out (i1 - 1) (by omega) (by omega)
          have hd : (Cd.bt t i1 != s2) = true := by simp [hne]
          have hd' : (Cd.bt t i1 == s2) = false := by simp [hne]
          have HR : Hid (m = if i0 + 1 < i1 + 1 then MA else ⟨#[]⟩) := show _ = _ by
            rw [HM.out]
            by_cases h : i0 + 1 < i1
            · rw [if_pos h, if_pos (by omega)]
            · rw [if_neg h, if_neg (by omega)]
          clear hne hi
          go_wp2
          go_quiet (fail)
          go_wp2
          go_roundw
          case rel => exact ⟨i1 + 1, m, by omega, by omega, by go_num, rfl, HR, Pl.below_drewN HBa.out _⟩
          case measure => simp [intOf]; omega
      · have hlti : ¬ (i1 : Int) < (r.p.lt.size : Int) + 1 := by omega
        have hm0 := HM.out
        rw [if_pos (by omega)] at hm0
        obtain rfl := hm0.symm
        have HKa := Lib.hid (HK3.out.below' HBa.out)
        have HBw := Lib.hid (HB3.out.trans (HBa.out.mono HB3.out.size))
        clear HMA HMW HWN HAI HCN HC0 HM hgt
        go_wp2
        go_loopw [5, 8] (fun mv i wr => ∃ (k : Nat) (m2 : ByteArray), k ≤ r.p.ex.length ∧ i = .int .i64 k ∧ mv = .string m2 ∧ Hid (m2 = Pl.ap ((r.p.ex.take k).contains s1) 69 MA) ∧ Hid (Below wa.heap.size wa wr)) (fun _ i _ => r.p.ex.length - (intOf i).toNat)
        case atStart => exact ⟨0, MA, by omega, rfl, rfl, show _ = _ by simp [Pl.ap], Below.refl _ _⟩
        case round =>
          obtain ⟨wb, eb⟩ : ∃ x, x = wr := ⟨_, rfl⟩
          subst eb
          obtain ⟨k, m2, hk, rfl, rfl, HM2, HBb⟩ := hrel
          have HBv := Lib.hid (HBw.out.trans (HBb.out.mono HBw.out.size))
          have HKb := Lib.hid (HKa.out.below' HBb.out)
          have HSb := Lib.hid (HSa.out.below' HBb.out)
          by_cases hlt2 : k < r.p.ex.length
          · obtain ⟨b, off, eA, hb, hc⟩ := HE.out (by omega)
            have c0 : ∀ q, (wb.drewN q).cell? ⟨b, off + k, none⟩ = some (.int .i64 (Pl.gI r.p.ex k)) := fun q => (HBv.out.cell (p := ⟨b, off + k, none⟩) (by show b < _; omega)).trans (hc k hlt2)
            have q3 : ∀ q, (wb.drewN q).cell? ⟨w.heap.size, 3, none⟩ = some (.slice (some ⟨b, off, none⟩) r.p.ex.length r.ec) := fun q => by rw [← eA]; exact (HKb.out.cell 3).trans rfl
            have q30 : wb.cell? ⟨w.heap.size, 3, none⟩ = some (.slice (some ⟨b, off, none⟩) r.p.ex.length r.ec) := q3 0
            have cs0 : ∀ q, (wb.drewN q).cell? ⟨w1.heap.size, 0, none⟩ = some (.int .i64 s1) := fun q => (HSb.out.cell 0).trans rfl
            have htk := HTK.out k hlt2
            have HTNk := Lib.hid (HTN.out k hlt2)
            clear hc eA
            generalize Pl.gI r.p.ex k = x at *
            by_cases hx : x = s1
            · have hno := HTNk.out hx
              have hm2 := HM2.out
              rw [hno] at hm2 htk
              have hd : (x == s1) = true := by simp [hx]
              have HR : Hid (MA ++ ⟨#[69]⟩ = Pl.ap ((r.p.ex.take (k + 1)).contains s1) 69 MA) := show _ = _ by rw [htk, hd]; rfl
              have hm3 : m2 = MA := by rw [hm2]; rfl
              clear hm2 htk hno HM2 hx
              subst hm3
              go_wp2
              go_quiet (fail)
              go_wp2
              go_roundw
              case rel => exact ⟨k + 1, _, by omega, by go_num, rfl, HR, Pl.below_drewN HBb.out _⟩
              case measure => simp [intOf]; omega
            · have hd : (x == s1) = false := by simp [hx]
              have HR : Hid (m2 = Pl.ap ((r.p.ex.take (k + 1)).contains s1) 69 MA) := show _ = _ by rw [htk, hd, Bool.or_false]; exact HM2.out
              clear htk hx
              go_wp2
              go_quiet (fail)
              go_wp2
              go_roundw
              case rel => exact ⟨k + 1, m2, by omega, by go_num, rfl, HR, Pl.below_drewN HBb.out _⟩
              case measure => simp [intOf]; omega
          · have hke : k = r.p.ex.length := by omega
            have HN : Hid (m2 = res) := show _ = _ by rw [HM2.out, hke, HTE.out, HMS.out]
            have q3 : wb.cell? ⟨w.heap.size, 3, none⟩ = some (.slice r.eA r.p.ex.length r.ec) := (HKb.out.cell 3).trans rfl
            clear hke
            go_wp2
            go_ret
            exact ⟨Pl.ret_str HN.out, HBv.out⟩
end Go.Proofs.YtonfkonjkgalhaaDoor
