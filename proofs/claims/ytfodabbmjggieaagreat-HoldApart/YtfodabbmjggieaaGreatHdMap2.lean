/- Contract of the statements' Maps. -/
import Derived.Test.YtfodabbmjggieaaGreatHdMaps
namespace Go.Proofs.YtfodabbmjggieaaGreat
open Go.RowKit Go.WideMaps
set_option linter.unusedVariables false

namespace Hd
/-- What Maps answers. -/
def MapsIs (w : World) (ps : List Pl.R) (e : Ending) (w' : World) : Prop :=
  (¬ MapsOk ps ∧ e = .returned (.tuple #[.slice none 0 0, .bool false]) ∧ Below w.heap.size w w') ∨
  (MapsOk ps ∧ ∃ A cap gs, e = .returned (.tuple #[.slice A gs.length cap, .bool true]) ∧ gs.map Prod.snd = ps.map Pl.R.p ∧ OwnP w' w.heap.size (.slice A gs.length cap) gs ∧ MapsAt w' gs ∧ Below w.heap.size w w')
theorem pOk_no1 {r : Pl.R} (h : 30 < r.p.lt.size) : pOk r = false := by unfold pOk; rw [decide_eq_false (by omega)]; rfl
theorem pOk_no2 {r : Pl.R} (h : 60 < r.p.ex.length) : pOk r = false := by unfold pOk; rw [decide_eq_false (p := r.p.ex.length ≤ 60) (by omega)]; simp
theorem pOk_no3 {r : Pl.R} (h : Pl.right r.p = false) : pOk r = false := by unfold pOk; rw [h]; simp
theorem pOk_yes {r : Pl.R} (h1 : ¬ 30 < r.p.lt.size) (h2 : ¬ 60 < r.p.ex.length) (h : Pl.right r.p = true) : pOk r = true := by unfold pOk; rw [h, decide_eq_true (by omega), decide_eq_true (p := r.p.ex.length ≤ 60) (by omega)]; rfl
theorem take_all {α : Type} {l : List α} {f : α → Bool} {k : Nat} (hk : k < l.length) (h : ∀ r ∈ l.take k, f r = true) (h2 : f l[k] = true) : ∀ r ∈ l.take (k + 1), f r = true := by
  rw [List.take_succ_eq_append_getElem hk]
  intro r hr
  rcases List.mem_append.1 hr with hr | hr
  · exact h r hr
  · simp at hr; rw [hr]; exact h2
theorem MapsAt.snoc {w : World} {gs : List (Nat × Pl.P)} {g : Nat} {p : Pl.P} {base : Nat} (h : MapsAt w gs) (h2 : Pl.MapAt w base g p (Pl.pls p)) : MapsAt w (gs ++ [(g, p)]) := fun i hi => by
  rcases Nat.lt_or_ge i gs.length with hlt | hge
  · rw [List.getElem_append_left hlt]; exact h i hlt
  · have : i = gs.length := by simp at hi; omega
    subst this
    simp
    exact ⟨base, h2⟩
end Hd
theorem maps_many (A : Option Addr) (n cap : Nat) (ps : List Pl.R) (w : World) (hn : n = ps.length) (hn1 : 8 < n) (hn2 : n ≤ 9223372036854775807) : Calls Tryz.prog 26 #[.slice A n cap] w (Hd.MapsIs w ps) := by
  have HX : Hid (Hd.MapsIs w ps (.returned (.tuple #[.slice none 0 0, .bool false])) w) := .inl ⟨fun h => by have := h.1; omega, rfl, Below.refl _ _⟩
  clear hn
  go_enter Tryz.func26, Tryz.ntmps26
  go_wp2
  go_ret2
  exact HX.out
set_option maxHeartbeats 2000000 in
set_option maxRecDepth 20000 in
theorem maps_few (A : Option Addr) (cap B : Nat) (ps : List Pl.R) (w : World) (h : Hd.Plns w B A ps) (hB : B ≤ w.heap.size) (hn : ps.length ≤ 8) : Calls Tryz.prog 26 #[.slice A ps.length cap] w (Hd.MapsIs w ps) := by
  have HH := Lib.hid h
  have HBad : Hid (∀ k (hk : k < ps.length), Hd.pOk ps[k] = false → ∀ w', Below w.heap.size w w' → Hd.MapsIs w ps (.returned (.tuple #[.slice none 0 0, .bool false])) w') := fun k hk hp w' hb => .inl ⟨fun hm => (by
    have := hm.2 _ (List.getElem_mem hk)
    rw [hp] at this; cases this), rfl, hb⟩
  have HOk : Hid (∀ (A' : Option Addr) (cap' : Nat) (gs : List (Nat × Pl.P)), (∀ r ∈ ps.take ps.length, Hd.pOk r = true) → gs.map Prod.snd = (ps.take ps.length).map Pl.R.p → ∀ w', Hd.OwnP w' w.heap.size (.slice A' gs.length cap') gs → Hd.MapsAt w' gs → Below w.heap.size w w' → Hd.MapsIs w ps (.returned (.tuple #[.slice A' gs.length cap', .bool true])) w') := fun A' cap' gs h1 h2 w' h3 h4 h5 => by
    rw [List.take_length] at h1 h2
    exact .inr ⟨⟨hn, h1⟩, A', cap', gs, rfl, h2, h3, h4, h5⟩
  have HRg := Lib.hid (fun (k : Nat) (hk : k < ps.length) W (hb : Below w.heap.size w W) => prright_any ps[k] B W (h.wf _ (List.getElem_mem hk)) ((h.ints _ (List.getElem_mem hk)).below hb hB) ((h.sts _ (List.getElem_mem hk)).below hb hB) (Nat.le_trans hB hb.size))
  have HNw := Lib.hid (fun (k : Nat) (hk : k < ps.length) (hr : Pl.right ps[k].p = true) W (hb : Below w.heap.size w W) => pnew_right ps[k] B W (h.wf _ (List.getElem_mem hk)) ((h.ints _ (List.getElem_mem hk)).below hb hB) ((h.sts _ (List.getElem_mem hk)).below hb hB) (Nat.le_trans hB hb.size) hr)
  have HTA := Lib.hid (fun k (hk : k < ps.length) => Hd.take_all (f := Hd.pOk) hk)
  have HTM : Hid (∀ k (hk : k < ps.length) (gs : List (Nat × Pl.P)) (g : Nat), gs.map Prod.snd = (ps.take k).map Pl.R.p → (gs ++ [(g, ps[k].p)]).map Prod.snd = (ps.take (k + 1)).map Pl.R.p) := fun k hk gs g e => by
    rw [List.take_succ_eq_append_getElem hk, List.map_append, List.map_append, e]; rfl
  clear h
  generalize Hd.MapsIs w ps = post at *
  go_enter Tryz.func26, Tryz.ntmps26
  go_wp2
  go_loopw [4, 5] (fun s4 s5 wr => ∃ (k : Nat) (gs : List (Nat × Pl.P)) (C : Option Addr) (c : Nat), k ≤ ps.length ∧ s4 = .slice C gs.length c ∧ s5 = .int .i64 k ∧ Hid (gs.length = k) ∧ Hid (gs.map Prod.snd = (ps.take k).map Pl.R.p) ∧ Hid (Hd.OwnP wr w.heap.size (.slice C gs.length c) gs) ∧ Hid (Hd.MapsAt wr gs) ∧ Hid (∀ r ∈ ps.take k, Hd.pOk r = true) ∧ Hid (Below w.heap.size w wr)) (fun _ i _ => ps.length - (intOf i).toNat)
  case atStart => exact ⟨0, [], none, 0, by omega, rfl, rfl, show _ = _ by rfl, show _ = _ by simp, ⟨rfl, .inl ⟨rfl, rfl⟩⟩, (fun i hi => absurd hi (by simp)), (fun r hr => absurd hr (by simp)), Below.refl _ _⟩
  case round =>
    obtain ⟨wx, ewx⟩ : ∃ x, x = wr := ⟨_, rfl⟩
    subst ewx
    obtain ⟨k, gs, C, c, hk, rfl, rfl, HGL, HM, HO, HA, HP, HB⟩ := hrel
    have hsx := HB.out.size
    by_cases hlt : k < ps.length
    · obtain ⟨b, off, hA, hbB, hrow⟩ := HH.out.row (by omega)
      have hr := hrow k hlt
      have HRow : Hid (∀ W, Below w.heap.size w W → W.rangeAt b (off + k * 5) (Pl.enc ps[k])) := fun W hb i v hv => (hb.cell (p := ⟨b, _, none⟩) (show b < w.heap.size by omega)).trans (hr i v hv)
      have HBk := Lib.hid (HBad.out k hlt)
      have HRk := Lib.hid (HRg.out k hlt wx HB.out)
      have HNk := Lib.hid (HNw.out k hlt)
      have HTk := Lib.hid (HTA.out k hlt HP.out)
      have HGk := Lib.hid (fun g => HTM.out k hlt gs g HM.out)
      have HR1 := Lib.hid (HRow.out wx HB.out)
      subst hA
      have hws := HH.out.wf _ (List.getElem_mem hlt)
      have hs9 := hws.s
      have he9 := hws.e
      clear hrow hr hws HBad HRg HNw HTA HTM HH
      generalize ps[k] = r at *
      have c0 : wx.cell? ⟨b, off + k * 5, none⟩ = some (.int .i64 r.p.fr) := HR1.out 0 _ rfl
      have c1 : wx.cell? ⟨b, off + k * 5 + 1, none⟩ = some (.int .i64 r.p.la) := HR1.out 1 _ rfl
      have c2 : wx.cell? ⟨b, off + k * 5 + 2, none⟩ = some (.string r.p.lt) := HR1.out 2 _ rfl
      have c3 : wx.cell? ⟨b, off + k * 5 + 3, none⟩ = some (.slice r.eA r.p.ex.length r.ec) := HR1.out 3 _ rfl
      have c4 : wx.cell? ⟨b, off + k * 5 + 4, none⟩ = some (.slice r.bA r.p.bl.length r.bc) := HR1.out 4 _ rfl
      unfold Pl.pv at HRk HNk
      by_cases h1 : 30 < r.p.lt.size
      · have HX := Lib.hid (HBk.out (Hd.pOk_no1 h1))
        go_wp2
        exact HX.out _ HB.out
      · by_cases h2 : 60 < r.p.ex.length
        · have HX := Lib.hid (HBk.out (Hd.pOk_no2 h2))
          go_wp2
          exact HX.out _ HB.out
        · cases hrt : Pl.right r.p with
          | false =>
            have HX := Lib.hid (HBk.out (Hd.pOk_no3 hrt))
            rw [hrt] at HRk
            clear HNk hrt
            go_wp2_with (first
              | (go_at_call 42; refine HRk.out.mono ?_; rintro e w2 ⟨rfl, hb2⟩))
            exact HX.out _ (HB.out.trans (hb2.mono hsx))
          | true =>
            have HTk2 := Lib.hid (HTk.out (Hd.pOk_yes h1 h2 hrt))
            have HNr := Lib.hid (HNk.out hrt)
            rw [hrt] at HRk
            have hgl : gs.length < 100000 := by have := HGL.out; omega
            clear HNk hrt HTk
            go_wp2_with (first
              | (have hgd := HR2; refine wpList_load_mid rfl 74 _ rfl b (off + k * 5) rfl (Pl.enc r) _ HR2.out Pl.uP Pl.rP Pl.iP ?_)
              | (go_at_call 42; refine HRk.out.mono ?_; rintro e w2 ⟨rfl, hb2⟩; have HB2 := Lib.hid (HB.out.trans (hb2.mono hsx)); have HR2 := Lib.hid (HRow.out w2 HB2.out); have HN2 := Lib.hid (HNr.out w2 HB2.out); have HO2 := Lib.hid (HO.out.below hb2); have HA2 := Lib.hid (HA.out.below hb2); clear hb2)
              | (go_at_call 43; refine HN2.out.mono ?_; rintro e w3 ⟨g, rfl, hM3, hb3⟩; have HB3 := Lib.hid (HB2.out.trans (hb3.mono HB2.out.size)); have HO3 := Lib.hid (HO2.out.below hb3); have HA3 := Lib.hid ((HA2.out.below hb3).snoc hM3); clear hM3 hb3)
              | (refine Hd.wpList_buildP rfl _ rfl g rfl ?_; intro w5 HK5 hb5 hz5; have HB5 := Lib.hid (HB3.out.trans (hb5.mono HB3.out.size)); have HO5 := Lib.hid (HO3.out.below hb5); have HA5 := Lib.hid (HA3.out.below hb5); have hs5 := HB5.out.size; clear hb5)
              | (refine Hd.wpList_appendP rfl _ _ rfl w.heap.size (.slice C gs.length c) gs (g, r.p) HO5.out rfl _ rfl HK5.out hgl hs5 ?_; intro v7 w7 HO7 HB7 HT7))
            obtain ⟨C7, c7, hv7⟩ := HO7.out.slice
            subst hv7
            have HA7 := Lib.hid (HA5.out.kept HT7.out)
            go_roundw
            case rel => exact ⟨k + 1, gs ++ [(g, r.p)], C7, c7, by omega, rfl, by go_num, show _ = _ by have := HGL.out; simp; omega, HGk.out g, HO7, HA7, HTk2, HB5.out.trans HB7.out⟩
            case measure => simp [intOf]; omega
    · have hkn : k = ps.length := by omega
      rw [hkn] at HM HP
      have HX := Lib.hid (HOk.out C c gs HP.out HM.out wx HO.out HA.out HB.out)
      clear HM HP HO HA
      go_wp2
      exact HX.out
theorem maps_any (A : Option Addr) (cap B : Nat) (ps : List Pl.R) (w : World) (h : Hd.Plns w B A ps) (hB : B ≤ w.heap.size) (hn : ps.length ≤ 9223372036854775807) : Calls Tryz.prog 26 #[.slice A ps.length cap] w (Hd.MapsIs w ps) := by
  rcases Nat.lt_or_ge 8 ps.length with h8 | h8
  · exact maps_many A _ cap ps w rfl h8 hn
  · exact maps_few A cap B ps w h hB h8
end Go.Proofs.YtfodabbmjggieaaGreat
