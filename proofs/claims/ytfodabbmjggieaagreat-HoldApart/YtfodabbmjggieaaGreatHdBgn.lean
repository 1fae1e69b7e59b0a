/- begun of the statements. -/
import Derived.Test.YtfodabbmjggieaaGreatHdMap2
import Derived.Test.YtfodabbmjggieaaGreatG2
namespace Go.Proofs.YtfodabbmjggieaaGreat
open Go.RowKit Go.WideMaps
set_option linter.unusedVariables false

namespace Hd
/-- There is a table of these flights. -/
def Good (rs : List Fl.R) : Prop := rs.length ≤ 64 ∧ Fl.newCode rs = 0
theorem newCode0 {rs : List Fl.R} (h : Fl.newCode rs = 0) : (∀ r ∈ rs, Fl.right r.f = true) ∧ (Fl.ks rs).Nodup := by
  unfold Fl.newCode at h
  split at h
  · rename_i h1
    split at h
    · rename_i h2
      exact ⟨by rw [List.all_eq_true] at h1; exact h1, h2⟩
    · cases h
  · cases h
theorem right_perm {rs rs' : List Fl.R} (hg : Good rs) (hp : (rs'.map Fl.R.f).Perm (rs.map Fl.R.f)) : (∀ r ∈ rs', Fl.right r.f = true) ∧ rs'.length ≤ 64 := by
  refine ⟨fun r hr => ?_, ?_⟩
  · have : r.f ∈ rs.map Fl.R.f := hp.mem_iff.1 (List.mem_map.2 ⟨r, hr, rfl⟩)
    obtain ⟨q, hq, e⟩ := List.mem_map.1 this
    rw [← e]
    exact (newCode0 hg.2).1 q hq
  · have := hp.length_eq
    have h1 := hg.1
    simp at this
    omega
theorem mapsOk_parts {ps : List Pl.R} {gs : List (Nat × Pl.P)} (h : MapsOk ps) (he : gs.map Prod.snd = ps.map Pl.R.p) : (∀ g ∈ gs, Pl.rowsOk g.2 = true ∧ Pl.lettersOk g.2.lt = true) ∧ gs.length ≤ 8 := by
  refine ⟨fun g hg => ?_, ?_⟩
  · have : g.2 ∈ ps.map Pl.R.p := by rw [← he]; exact List.mem_map.2 ⟨g, hg, rfl⟩
    obtain ⟨r, hr, e⟩ := List.mem_map.1 this
    have h1 := h.2 r hr
    unfold pOk at h1
    simp only [Bool.and_eq_true] at h1
    rw [← e]
    exact Pl.right_parts h1.2
  · have h1 := congrArg List.length he
    have h2 := h.1
    simp at h1
    omega
/-- What begun leaves where there is a book. -/
def BegunIs (w : World) (rs : List Fl.R) (ps : List Pl.R) (e : Ending) (w' : World) : Prop :=
  ∃ Bt p t m A cap rs' gs, e = .returned (.tuple #[.pointer (some ⟨p, 0, none⟩), .bool true]) ∧ At w' Bt p t m A cap rs' gs [] ∧ (rs'.map Fl.R.f).Perm (rs.map Fl.R.f) ∧ gs.map Prod.snd = ps.map Pl.R.p ∧ w.heap.size ≤ Bt ∧ Below w.heap.size w w'
end Hd
theorem new_ok (A : Option Addr) (rs : List Fl.R) (cap B : Nat) (w : World) (h : Fl.Fls w B A rs) (hB : B ≤ w.heap.size) (hg : Hd.Good rs) :
    Calls Tryz.prog 27 #[.slice A rs.length cap] w fun e w' => ∃ t rs', e = .returned (.tuple #[.pointer (some ⟨t, 0, none⟩), .int .i64 0]) ∧ (rs'.map Fl.R.f).Perm (rs.map Fl.R.f) ∧ Fl.Tab w' w.heap.size t rs' ∧ Below w.heap.size w w' := by
  obtain ⟨h1, h2⟩ := hg
  obtain ⟨h3, h4⟩ := Hd.newCode0 h2
  refine (new_right A rs cap B w h hB h1 h3 (fun r hr => ?_)).mono fun e w' hh => ?_
  · have := h3 r hr
    unfold Fl.right Fl.clsOk at this
    simp only [Bool.and_eq_true, decide_eq_true_eq] at this
    have := this.1.2.1.2
    omega
  · rcases hh with ⟨_, t, rs', he, hp, hT, hb⟩ | ⟨hn, _⟩
    · exact ⟨t, rs', he, hp, hT, hb⟩
    · exact absurd h4 hn
theorem maps_ok (A : Option Addr) (cap B : Nat) (ps : List Pl.R) (w : World) (h : Hd.Plns w B A ps) (hB : B ≤ w.heap.size) (hk : Hd.MapsOk ps) : Calls Tryz.prog 26 #[.slice A ps.length cap] w fun e w' => ∃ A cap gs, e = .returned (.tuple #[.slice A gs.length cap, .bool true]) ∧ gs.map Prod.snd = ps.map Pl.R.p ∧ Hd.OwnP w' w.heap.size (.slice A gs.length cap) gs ∧ Hd.MapsAt w' gs ∧ Below w.heap.size w w' := by
  refine (maps_any A cap B ps w h hB (by have := hk.1; omega)).mono fun e w' hh => ?_
  rcases hh with ⟨h1, _⟩ | ⟨_, h1⟩
  · exact absurd hk h1
  · exact h1
theorem maps_bad (A : Option Addr) (cap B : Nat) (ps : List Pl.R) (w : World) (h : Hd.Plns w B A ps) (hB : B ≤ w.heap.size) (hn : ps.length ≤ 9223372036854775807) (hk : ¬ Hd.MapsOk ps) : Calls Tryz.prog 26 #[.slice A ps.length cap] w fun e w' => e = .returned (.tuple #[.slice none 0 0, .bool false]) ∧ Below w.heap.size w w' := by
  refine (maps_any A cap B ps w h hB hn).mono fun e w' hh => ?_
  rcases hh with ⟨_, h1⟩ | ⟨h1, _⟩
  · exact h1
  · exact absurd h1 hk
set_option maxHeartbeats 1000000 in
theorem begun_no (A C : Option Addr) (rs : List Fl.R) (ps : List Pl.R) (cap c B : Nat) (w : World) (h : Fl.Fls w B A rs) (hp : Hd.Plns w B C ps) (hB : B ≤ w.heap.size) (hl : rs.length ≤ 9223372036854775807) (hl2 : ps.length ≤ 9223372036854775807) (hg : ¬ (Hd.Good rs ∧ Hd.MapsOk ps)) :
    Calls Tryz.prog 8 #[.agg #[.slice A rs.length cap, .slice C ps.length c]] w fun e w' => e = .returned (.tuple #[.pointer none, .bool false]) ∧ Below w.heap.size w w' := by
  by_cases h64 : rs.length ≤ 64
  · by_cases hc : Fl.newCode rs = 0
    · have hM : ¬ Hd.MapsOk ps := fun h => hg ⟨⟨h64, hc⟩, h⟩
      have HN := Lib.hid (fun W (hb : Below w.heap.size w W) => rnew_any A rs cap B W (h.below hb hB) (Nat.le_trans hB hb.size) h64)
      have HMp := Lib.hid (fun W (hb : Below w.heap.size w W) => maps_bad C c B ps W (hp.below hb hB) (Nat.le_trans hB hb.size) hl2 hM)
      have HW := Lib.hid (fun W (hb : Below w.heap.size w W) => new_ok A rs cap B W (h.below hb hB) (Nat.le_trans hB hb.size) ⟨h64, hc⟩)
      rw [hc] at HN
      have hn : ¬ 64 < rs.length := by omega
      clear h hp hg hM hc
      generalize rs.length = n at *
      generalize ps.length = n2 at *
      go_enter Tryz.func8, Tryz.ntmps8
      go_wp2_with (first
        | (refine Rw.wpList_box rfl 25 _ rfl [.slice A n cap, .slice C n2 c] rfl ?_; intro w1 K1 b1 z1; have c0 : w1.cell? ⟨w.heap.size, 0, none⟩ = some (.slice A n cap) := K1.cell 0; have HN1 := Lib.hid (HN.out w1 b1))
        | (go_at_call 25; refine HN1.out.mono ?_; rintro e w2 ⟨rfl, hb2⟩; have K12 := K1.below' hb2; have HB2 := Lib.hid (b1.trans (hb2.mono b1.size)); have c1 : w2.cell? ⟨w.heap.size, 1, none⟩ = some (.slice C n2 c) := K12.cell 1; have HM1 := Lib.hid (HMp.out w2 HB2.out); clear hb2)
        | (go_at_call 26; refine HM1.out.mono ?_; rintro e w3 ⟨rfl, hb3⟩; have HB3 := Lib.hid (HB2.out.trans (hb3.mono HB2.out.size)); have d0 : w3.cell? ⟨w.heap.size, 0, none⟩ = some (.slice A n cap) := (K12.below' hb3).cell 0; have HW3 := Lib.hid (HW.out w3 HB3.out))
        | (go_at_call 27; refine HW3.out.mono ?_; rintro e w4 ⟨t, rs', rfl, _, _, hb4⟩))
      go_ret2
      exact ⟨rfl, HB3.out.trans (hb4.mono HB3.out.size)⟩
    · have HN := Lib.hid (fun W (hb : Below w.heap.size w W) => rnew_any A rs cap B W (h.below hb hB) (Nat.le_trans hB hb.size) h64)
      have h1 : (Fl.newCode rs != 0) = true := by simp [hc]
      have hn : ¬ 64 < rs.length := by omega
      clear h hp hg hc
      generalize Fl.newCode rs = cd at *
      generalize rs.length = n at *
      generalize ps.length = n2 at *
      go_enter Tryz.func8, Tryz.ntmps8
      go_wp2_with (first
        | (refine Rw.wpList_box rfl 25 _ rfl [.slice A n cap, .slice C n2 c] rfl ?_; intro w1 K1 b1 z1; have c0 : w1.cell? ⟨w.heap.size, 0, none⟩ = some (.slice A n cap) := K1.cell 0; have HN1 := Lib.hid (HN.out w1 b1))
        | (go_at_call 25; refine HN1.out.mono ?_; rintro e w2 ⟨rfl, hb2⟩; have HB2 := Lib.hid hb2))
      go_ret2
      exact ⟨rfl, b1.trans (HB2.out.mono b1.size)⟩
  · have hn : 64 < rs.length := by omega
    clear h hp hg
    generalize rs.length = n at *
    generalize ps.length = n2 at *
    go_enter Tryz.func8, Tryz.ntmps8
    go_wp2_with (first
      | (refine Rw.wpList_box rfl 25 _ rfl [.slice A n cap, .slice C n2 c] rfl ?_; intro w1 K1 b1 z1; have c0 : w1.cell? ⟨w.heap.size, 0, none⟩ = some (.slice A n cap) := K1.cell 0))
    go_ret2
    exact ⟨rfl, b1⟩
set_option maxHeartbeats 1000000 in
theorem begun_ok (A C : Option Addr) (rs : List Fl.R) (ps : List Pl.R) (cap c B : Nat) (w : World) (h : Fl.Fls w B A rs) (hp : Hd.Plns w B C ps) (hB : B ≤ w.heap.size) (hg : Hd.Good rs) (hm : Hd.MapsOk ps) :
    Calls Tryz.prog 8 #[.agg #[.slice A rs.length cap, .slice C ps.length c]] w (Hd.BegunIs w rs ps) := by
  have HN := Lib.hid (fun W (hb : Below w.heap.size w W) => rnew_any A rs cap B W (h.below hb hB) (Nat.le_trans hB hb.size) hg.1)
  have HMp := Lib.hid (fun W (hb : Below w.heap.size w W) => maps_ok C c B ps W (hp.below hb hB) (Nat.le_trans hB hb.size) hm)
  have HW := Lib.hid (fun W (hb : Below w.heap.size w W) => new_ok A rs cap B W (h.below hb hB) (Nat.le_trans hB hb.size) hg)
  rw [hg.2] at HN
  have hn : ¬ 64 < rs.length := by have := hg.1; omega
  have HR := Lib.hid (fun rs' => Hd.right_perm (rs' := rs') hg)
  have HQ := Lib.hid (fun gs => Hd.mapsOk_parts (gs := gs) hm)
  have HF : Hid (∀ Bt p t m A cap rs' gs w', Hd.At w' Bt p t m A cap rs' gs [] → (rs'.map Fl.R.f).Perm (rs.map Fl.R.f) → gs.map Prod.snd = ps.map Pl.R.p → w.heap.size ≤ Bt → Below w.heap.size w w' → Hd.BegunIs w rs ps (.returned (.tuple #[.pointer (some ⟨p, 0, none⟩), .bool true])) w') := fun Bt p t m A cap rs' gs w' h1 h2 h3 h4 h5 => ⟨Bt, p, t, m, A, cap, rs', gs, rfl, h1, h2, h3, h4, h5⟩
  clear h hp hg hm
  generalize Hd.BegunIs w rs ps = post at *
  generalize rs.length = n at *
  generalize ps.length = n2 at *
  go_enter Tryz.func8, Tryz.ntmps8
  go_wp2_with (first
    | (refine Rw.wpList_box rfl 25 _ rfl [.slice A n cap, .slice C n2 c] rfl ?_; intro w1 K1 b1 z1; have c0 : w1.cell? ⟨w.heap.size, 0, none⟩ = some (.slice A n cap) := K1.cell 0; have HN1 := Lib.hid (HN.out w1 b1))
    | (go_at_call 25; refine HN1.out.mono ?_; rintro e w2 ⟨rfl, hb2⟩; have K12 := K1.below' hb2; have HB2 := Lib.hid (b1.trans (hb2.mono b1.size)); have c1 : w2.cell? ⟨w.heap.size, 1, none⟩ = some (.slice C n2 c) := K12.cell 1; have HM1 := Lib.hid (HMp.out w2 HB2.out); clear hb2)
    | (go_at_call 26; refine HM1.out.mono ?_; rintro e w3 ⟨A3, c3, gs, rfl, hgs, hO3, hA3, hb3⟩; have HB3 := Lib.hid (HB2.out.trans (hb3.mono HB2.out.size)); have d0 : w3.cell? ⟨w.heap.size, 0, none⟩ = some (.slice A n cap) := (K12.below' hb3).cell 0; have HW3 := Lib.hid (HW.out w3 HB3.out); have HGS := Lib.hid hgs; have HO3 := Lib.hid hO3; have HA3 := Lib.hid hA3; clear hgs hO3 hA3 hb3)
    | (go_at_call 27; refine HW3.out.mono ?_; rintro e w4 ⟨t, rs', rfl, hpm, hT, hb4⟩; have HB4 := Lib.hid (HB3.out.trans (hb4.mono HB3.out.size)); have HPM := Lib.hid hpm; have HX4 := Lib.hid (hnew_any w2.heap.size t A3 c3 rs' gs w4 ⟨⟨_, hT⟩, HA3.out.below hb4⟩ (HO3.out.below hb4) (HR.out rs' hpm).1 (HR.out rs' hpm).2 (HQ.out gs HGS.out).1 (HQ.out gs HGS.out).2); clear hpm hT hb4)
    | (go_at_call 28; refine HX4.out.mono ?_; rintro e w5 ⟨p, m, A5, c5, rfl, hAt, hb5⟩; have HAT := Lib.hid hAt; have HB5 := Lib.hid (HB4.out.trans (hb5.mono HB4.out.size)); clear hAt hb5))
  exact HF.out w4.heap.size p t m A5 c5 rs' gs w5 HAT.out HPM.out HGS.out HB4.out.size HB5.out
end Go.Proofs.YtfodabbmjggieaaGreat
