/- Contract: Take. -/
import Derived.Test.YtfodabbmjggieaaGreatHdWho
namespace Go.Proofs.YtfodabbmjggieaaGreat
open Go.RowKit Go.WideMaps
set_option linter.unusedVariables false

namespace Hd
def takeC (fs : List Fl.F) (ps : List Pl.P) (l : List (K × H)) (k : K) (h : H) : Int := if chk fs ps k = 0 then (match who l k with
  | some h' => if h' = h then 8 else 14
  | none => 0) else chk fs ps k
theorem takeC_chk {fs : List Fl.F} {ps : List Pl.P} {l : List (K × H)} {k : K} {h : H} (hc : chk fs ps k ≠ 0) : takeC fs ps l k h = chk fs ps k := by unfold takeC; rw [if_neg hc]
theorem takeC_some {fs : List Fl.F} {ps : List Pl.P} {l : List (K × H)} {k : K} {h h' : H} (hc : chk fs ps k = 0) (hw : who l k = some h') : takeC fs ps l k h = if h' = h then 8 else 14 := by unfold takeC; rw [if_pos hc, hw]
theorem takeC_none {fs : List Fl.F} {ps : List Pl.P} {l : List (K × H)} {k : K} {h : H} (hc : chk fs ps k = 0) (hw : who l k = none) : takeC fs ps l k h = 0 := by unfold takeC; rw [if_pos hc, hw]
def TakeIs (w : World) (Bt p t m : Nat) (A : Option Addr) (cap : Nat) (rs : List Fl.R) (gs : List (Nat × Pl.P)) (l : List (K × H)) (k : K) (h : H) (e : Ending) (w' : World) : Prop :=
  e = .returned (.int .i64 (takeC (rs.map Fl.R.f) (gs.map Prod.snd) l k h)) ∧ ∃ l', At w' Bt p t m A cap rs gs l' ∧ Rw.Fr (· = m) w w' ∧ ((takeC (rs.map Fl.R.f) (gs.map Prod.snd) l k h = 0 ∧ l' = l ++ [(k, h)]) ∨ (takeC (rs.map Fl.R.f) (gs.map Prod.snd) l k h ≠ 0 ∧ l' = l ∧ Below w.heap.size w w'))
theorem who_none_of {l : List (K × H)} {k : K} (h : who l k = none) : ∀ e ∈ l, e.1 ≠ k := by
  rcases who_cases l k with ⟨n, _, e⟩ | ⟨g, _⟩
  · rw [h] at e; cases e
  · exact g
theorem At.put {w W : World} {Bt p t m cap : Nat} {A : Option Addr} {rs : List Fl.R} {gs : List (Nat × Pl.P)} {l : List (K × H)} {k : K} {n : H} (h : At w Bt p t m A cap rs gs l) (hk : OkK k) (hc : chk (rs.map Fl.R.f) (gs.map Prod.snd) k = 0) (hn : who l k = none) (hb : Below w.heap.size w W) :
    ∃ w', (Instr.mapUpdate 87 (.map (some m)) (pv k) (hv n)).run Tryz.prog W = .ok () w' ∧ At w' Bt p t m A cap rs gs (l ++ [(k, n)]) ∧ Rw.Fr (· = m) w w' := by
  have hW := h.kept hb
  obtain ⟨w', l', hrun, hM, hO, hU⟩ := hW.map.upd lawP (pv_key hk) uHeld (hv n)
  have hf : Rw.Fr (· = m) W w' := ⟨hO.os, hO.tape, hO.output, Nat.le_of_eq hO.size.symm, fun j _ hj => hO.block j hj⟩
  have hno := who_none_of hn
  have hl : l' = (l ++ [(k, n)]).map ent := by
    rcases hU with ⟨_, h2⟩ | ⟨j, u, h1, _⟩
    · rw [h2]; simp [ent]
    · have hj : j < l.length := by have := (List.getElem?_eq_some_iff.1 h1).1; simpa using this
      have h2 := (List.getElem?_eq_some_iff.1 h1).2
      simp [ent] at h2
      exact absurd (pv_inj h2.1) (hno _ (List.getElem_mem hj))
  subst hl
  refine ⟨w', hrun, ⟨hW.env.fr hf (fun j hj => by have : j = m := hj; subst this; exact h.lom), hW.blk.kept (hf.block p hW.blk.lt h.ne), hW.row.kept fun g cur hg => hf.block g (Rw.lt_of_some hg) (fun (e : g = m) => ?_), hM, h.lop, h.lom, fun e he => ?_, h.right, h.few, h.pok, h.pfew⟩, (Rw.Fr.of_below hb).trans hf (fun _ _ e => e)⟩
  · subst e
    obtain ⟨es, ck, hb2, _⟩ := hW.map
    rw [hg] at hb2
    cases hb2
  · rcases List.mem_append.1 he with he | he
    · exact h.val e he
    · simp at he
      subst he
      exact ⟨hc, hk⟩
theorem hne_of {a b : ByteArray} {x y : Int} (h : ¬ (⟨a, x⟩ : H) = ⟨b, y⟩) : (a.toList == b.toList && x == y) = false := by
  by_cases h1 : a = b
  · subst h1
    have : x ≠ y := fun e => h (by rw [e])
    simp [this]
  · rw [Fl.str_ne h1]; rfl
end Hd
set_option maxHeartbeats 2000000 in
set_option maxRecDepth 20000 in
theorem take_any (Bt p t m : Nat) (A : Option Addr) (cap : Nat) (rs : List Fl.R) (gs : List (Nat × Pl.P)) (l : List (Hd.K × Hd.H)) (k : Hd.K) (h : Hd.H) (w : World) (hA : Hd.At w Bt p t m A cap rs gs l) (hk : Hd.OkK k) :
    Calls Tryz.prog 12 #[.pointer (some ⟨p, 0, none⟩), .agg #[.string k.car, .int .i64 k.num, .int .i64 k.day], .agg #[.int .i64 k.row, .int .u8 k.ltr], .agg #[.string h.loc, .int .i64 h.pax]] w (Hd.TakeIs w Bt p t m A cap rs gs l k h) := by
  have HC := Lib.hid (fun W (hb : Below w.heap.size w W) => hcheck_any Bt p t m A cap rs gs l k W (hA.kept hb) hk)
  have HW := Lib.hid (fun W (hb : Below w.heap.size w W) => who_any Bt p t m A cap rs gs l k W (hA.kept hb) hk)
  have HP := Lib.hid hA.blk
  have hpl := hA.blk.lt
  have HR : Hid (∀ (c : Int), Hd.takeC (rs.map Fl.R.f) (gs.map Prod.snd) l k h = c → c ≠ 0 → ∀ w', Below w.heap.size w w' → Hd.TakeIs w Bt p t m A cap rs gs l k h (.returned (.int .i64 c)) w') := fun c hc h0 w' hb => ⟨by rw [hc], l, hA.kept hb, Rw.Fr.of_below hb, .inr ⟨by rw [hc]; exact h0, rfl, hb⟩⟩
  have HO : Hid (Hd.takeC (rs.map Fl.R.f) (gs.map Prod.snd) l k h = 0 → ∀ w', (Hd.At w' Bt p t m A cap rs gs (l ++ [(k, h)]) ∧ Rw.Fr (· = m) w w') → Hd.TakeIs w Bt p t m A cap rs gs l k h (.returned (.int .i64 0)) w') := fun hc w' hb => ⟨by rw [hc], _, hb.1, hb.2, .inl ⟨hc, rfl⟩⟩
  by_cases hc : Hd.chk (rs.map Fl.R.f) (gs.map Prod.snd) k = 0
  · cases hw : Hd.who l k with
    | none =>
      have HX := Lib.hid (HO.out (Hd.takeC_none hc hw))
      have HU := Lib.hid (fun W (hb : Below w.heap.size w W) => hA.put (n := h) hk hc hw hb)
      have e1 : Hd.whoH l k = Hd.h0 := by unfold Hd.whoH; rw [hw]; rfl
      rw [e1, hw] at HW
      rw [hc] at HC
      clear e1 hc hw hA hk HR HO
      generalize Hd.TakeIs w Bt p t m A cap rs gs l k h = post at *
      obtain ⟨car, num, day, row, ltr⟩ := k
      obtain ⟨loc, pax⟩ := h
      unfold Hd.h0 at HW
      unfold Hd.pv Hd.hv at HU
      simp only [Option.isSome_none] at HC HW HU ⊢
      go_enter Tryz.func12, Tryz.ntmps12
      go_wp2_with (first
        | (refine Rw.wpList_box rfl 35 _ rfl [.string car, .int .i64 num, .int .i64 day] rfl ?_; intro w1 K1 b1 z1; have HZ1 := Lib.hid z1; have HB1 := Lib.hid b1; have HK1 := Lib.hid K1; clear z1 b1 K1)
        | (refine Rw.wpList_box rfl 37 _ rfl [.int .i64 row, .int .u8 ltr] rfl ?_; intro w2 K2 b2 z2; have HZ2 := Lib.hid z2; have HB2 := Lib.hid (HB1.out.trans (b2.mono HB1.out.size)); have HK12 := Lib.hid (HK1.out.below' b2); have HK2 := Lib.hid K2; clear z2 b2 K2)
        | (refine Rw.wpList_box rfl 39 _ rfl [.string loc, .int .i64 pax] rfl ?_; intro w3 K3 b3 z3; have HZ3 := Lib.hid z3; have HB3 := Lib.hid (HB2.out.trans (b3.mono HB2.out.size)); have HS : Hid (∀ w', Below w3.heap.size w3 w' → w'.cell? ⟨w.heap.size, 0, none⟩ = some (.string car) ∧ w'.cell? ⟨w.heap.size, 1, none⟩ = some (.int .i64 num) ∧ w'.cell? ⟨w.heap.size, 2, none⟩ = some (.int .i64 day) ∧ w'.cell? ⟨w1.heap.size, 0, none⟩ = some (.int .i64 row) ∧ w'.cell? ⟨w1.heap.size, 1, none⟩ = some (.int .u8 ltr) ∧ w'.cell? ⟨w2.heap.size, 0, none⟩ = some (.string loc) ∧ w'.cell? ⟨w2.heap.size, 1, none⟩ = some (.int .i64 pax) ∧ w'.cell? ⟨p, 2, none⟩ = some (.map (some m))) := (fun w' hb => by
            have k1 := (HK12.out.below' b3).below' hb
            have k2 := (HK2.out.below' b3).below' hb
            have k3 := K3.below' hb
            exact ⟨k1.cell 0, k1.cell 1, k1.cell 2, k2.cell 0, k2.cell 1, k3.cell 0, k3.cell 1, ((HP.out.below' HB3.out).below' hb).cell 2⟩); obtain ⟨c0, c1, c2, d0, d1, _⟩ := HS.out w3 (Below.refl _ _); have HC3 := Lib.hid (HC.out w3 HB3.out); clear z3 b3 K3)
        | (go_at_call 30; refine HC3.out.mono ?_; rintro e w4 ⟨rfl, hb4⟩; clear c0 c1 c2 d0 d1; obtain ⟨c0, c1, c2, d0, d1, _⟩ := HS.out w4 hb4; have HB34 := Lib.hid hb4; have HB4 := Lib.hid (HB3.out.trans (hb4.mono HB3.out.size)); have HW4 := Lib.hid (HW.out w4 HB4.out); clear hb4)
        | (go_at_call 15; refine HW4.out.mono ?_; rintro e w5 ⟨rfl, hb5⟩; clear c0 c1 c2 d0 d1; have HB35 := Lib.hid (HB34.out.trans (hb5.mono HB34.out.size)); have HB5 := Lib.hid (HB4.out.trans (hb5.mono HB4.out.size)); clear hb5)
        | (refine Rw.wpList_alloc rfl 39 rfl [.string ⟨#[]⟩, .int .i64 0] Hd.zH ?_; intro w6 K6 b6 z6; have HB36 := Lib.hid (HB35.out.trans (b6.mono HB35.out.size)); have HB6 := Lib.hid (HB5.out.trans (b6.mono HB5.out.size)); have HK6 := Lib.hid K6; clear K6 b6 z6)
        | (refine Rw.wpList_store_whole rfl 39 _ _ rfl w5.heap.size rfl [.string ⟨#[]⟩, .int .i64 0] rfl _ _ HK6.out Hd.iH rfl Hd.one2 ?_; intro w7 K7 f7; have HB37 := Lib.hid (HB36.out.trans (f7.below HB36.out.size (fun k hk => by have h1 : k = w5.heap.size := hk; have h2 := HB35.out.size; omega))); have HB7 := Lib.hid (HB6.out.trans (f7.below HB6.out.size (fun k hk => by have h1 : k = w5.heap.size := hk; have h2 := HB5.out.size; omega))); obtain ⟨c0, c1, c2, d0, d1, g0, g1, q0⟩ := HS.out w7 HB37.out; have x0 : w7.cell? ⟨w5.heap.size, 0, none⟩ = some (.string ⟨#[]⟩) := K7.cell 0; have x1 : w7.cell? ⟨w5.heap.size, 1, none⟩ = some (.int .i64 0) := K7.cell 1; clear K7 f7; obtain ⟨w8, hrun, hfin⟩ := HU.out w7.drew HB7.out.drew; have HFI := Lib.hid hfin; clear hfin))
      go_region
      all_goals go_wp2
      all_goals exact HX.out _ HFI.out
    | some h' =>
      have e1 : Hd.whoH l k = h' := by unfold Hd.whoH; rw [hw]; rfl
      have HT := Lib.hid (Hd.takeC_some (h := h) hc hw)
      rw [e1, hw] at HW
      rw [hc] at HC
      clear e1 hc hw hA hk HO
      by_cases he : h' = h
      · have HX := Lib.hid (HR.out 8 (by rw [HT.out, if_pos he]) (by decide))
        subst he
        clear HR HT
        generalize Hd.TakeIs w Bt p t m A cap rs gs l k h' = post at *
        obtain ⟨car, num, day, row, ltr⟩ := k
        obtain ⟨loc, pax⟩ := h'
        simp only [Option.isSome_some] at HC HW ⊢
        go_enter Tryz.func12, Tryz.ntmps12
        go_wp2_with (first
          | (refine Rw.wpList_box rfl 35 _ rfl [.string car, .int .i64 num, .int .i64 day] rfl ?_; intro w1 K1 b1 z1; have HZ1 := Lib.hid z1; have HB1 := Lib.hid b1; have HK1 := Lib.hid K1; clear z1 b1 K1)
          | (refine Rw.wpList_box rfl 37 _ rfl [.int .i64 row, .int .u8 ltr] rfl ?_; intro w2 K2 b2 z2; have HZ2 := Lib.hid z2; have HB2 := Lib.hid (HB1.out.trans (b2.mono HB1.out.size)); have HK12 := Lib.hid (HK1.out.below' b2); have HK2 := Lib.hid K2; clear z2 b2 K2)
          | (refine Rw.wpList_box rfl 39 _ rfl [.string loc, .int .i64 pax] rfl ?_; intro w3 K3 b3 z3; have HZ3 := Lib.hid z3; have HB3 := Lib.hid (HB2.out.trans (b3.mono HB2.out.size)); have HS : Hid (∀ w', Below w3.heap.size w3 w' → w'.cell? ⟨w.heap.size, 0, none⟩ = some (.string car) ∧ w'.cell? ⟨w.heap.size, 1, none⟩ = some (.int .i64 num) ∧ w'.cell? ⟨w.heap.size, 2, none⟩ = some (.int .i64 day) ∧ w'.cell? ⟨w1.heap.size, 0, none⟩ = some (.int .i64 row) ∧ w'.cell? ⟨w1.heap.size, 1, none⟩ = some (.int .u8 ltr) ∧ w'.cell? ⟨w2.heap.size, 0, none⟩ = some (.string loc) ∧ w'.cell? ⟨w2.heap.size, 1, none⟩ = some (.int .i64 pax) ∧ w'.cell? ⟨p, 2, none⟩ = some (.map (some m))) := (fun w' hb => by
              have k1 := (HK12.out.below' b3).below' hb
              have k2 := (HK2.out.below' b3).below' hb
              have k3 := K3.below' hb
              exact ⟨k1.cell 0, k1.cell 1, k1.cell 2, k2.cell 0, k2.cell 1, k3.cell 0, k3.cell 1, ((HP.out.below' HB3.out).below' hb).cell 2⟩); obtain ⟨c0, c1, c2, d0, d1, _⟩ := HS.out w3 (Below.refl _ _); have HC3 := Lib.hid (HC.out w3 HB3.out); clear z3 b3 K3)
          | (go_at_call 30; refine HC3.out.mono ?_; rintro e w4 ⟨rfl, hb4⟩; clear c0 c1 c2 d0 d1; obtain ⟨c0, c1, c2, d0, d1, _⟩ := HS.out w4 hb4; have HB34 := Lib.hid hb4; have HB4 := Lib.hid (HB3.out.trans (hb4.mono HB3.out.size)); have HW4 := Lib.hid (HW.out w4 HB4.out); clear hb4)
          | (go_at_call 15; refine HW4.out.mono ?_; rintro e w5 ⟨rfl, hb5⟩; clear c0 c1 c2 d0 d1; have HB35 := Lib.hid (HB34.out.trans (hb5.mono HB34.out.size)); have HB5 := Lib.hid (HB4.out.trans (hb5.mono HB4.out.size)); clear hb5)
          | (refine Rw.wpList_alloc rfl 39 rfl [.string ⟨#[]⟩, .int .i64 0] Hd.zH ?_; intro w6 K6 b6 z6; have HB36 := Lib.hid (HB35.out.trans (b6.mono HB35.out.size)); have HB6 := Lib.hid (HB5.out.trans (b6.mono HB5.out.size)); have HK6 := Lib.hid K6; clear K6 b6 z6)
          | (refine Rw.wpList_store_whole rfl 39 _ _ rfl w5.heap.size rfl [.string loc, .int .i64 pax] rfl _ _ HK6.out Hd.iH rfl Hd.one2 ?_; intro w7 K7 f7; have HB37 := Lib.hid (HB36.out.trans (f7.below HB36.out.size (fun k hk => by have h1 : k = w5.heap.size := hk; have h2 := HB35.out.size; omega))); have HB7 := Lib.hid (HB6.out.trans (f7.below HB6.out.size (fun k hk => by have h1 : k = w5.heap.size := hk; have h2 := HB5.out.size; omega))); obtain ⟨c0, c1, c2, d0, d1, g0, g1, q0⟩ := HS.out w7 HB37.out; have x0 : w7.cell? ⟨w5.heap.size, 0, none⟩ = some (.string loc) := K7.cell 0; have x1 : w7.cell? ⟨w5.heap.size, 1, none⟩ = some (.int .i64 pax) := K7.cell 1; clear K7 f7))
        exact HX.out _ HB7.out
      · have HX := Lib.hid (HR.out 14 (by rw [HT.out, if_neg he]) (by decide))
        clear HR HT
        generalize Hd.TakeIs w Bt p t m A cap rs gs l k h = post at *
        obtain ⟨car, num, day, row, ltr⟩ := k
        obtain ⟨loc, pax⟩ := h
        obtain ⟨loc2, pax2⟩ := h'
        simp only [Option.isSome_some] at HC HW ⊢
        by_cases hs : loc2 = loc
        · have hs' := hs.symm
          subst hs'
          have hp : pax2 ≠ pax := fun e => he (by rw [e])
          have hp2 : (pax2 == pax) = false := by simpa using hp
          have hp3 : (pax2 != pax) = true := by simpa using hp
          clear he hp hs
          go_enter Tryz.func12, Tryz.ntmps12
          go_wp2_with (first
            | (refine Rw.wpList_box rfl 35 _ rfl [.string car, .int .i64 num, .int .i64 day] rfl ?_; intro w1 K1 b1 z1; have HZ1 := Lib.hid z1; have HB1 := Lib.hid b1; have HK1 := Lib.hid K1; clear z1 b1 K1)
            | (refine Rw.wpList_box rfl 37 _ rfl [.int .i64 row, .int .u8 ltr] rfl ?_; intro w2 K2 b2 z2; have HZ2 := Lib.hid z2; have HB2 := Lib.hid (HB1.out.trans (b2.mono HB1.out.size)); have HK12 := Lib.hid (HK1.out.below' b2); have HK2 := Lib.hid K2; clear z2 b2 K2)
            | (refine Rw.wpList_box rfl 39 _ rfl [.string loc, .int .i64 pax] rfl ?_; intro w3 K3 b3 z3; have HZ3 := Lib.hid z3; have HB3 := Lib.hid (HB2.out.trans (b3.mono HB2.out.size)); have HS : Hid (∀ w', Below w3.heap.size w3 w' → w'.cell? ⟨w.heap.size, 0, none⟩ = some (.string car) ∧ w'.cell? ⟨w.heap.size, 1, none⟩ = some (.int .i64 num) ∧ w'.cell? ⟨w.heap.size, 2, none⟩ = some (.int .i64 day) ∧ w'.cell? ⟨w1.heap.size, 0, none⟩ = some (.int .i64 row) ∧ w'.cell? ⟨w1.heap.size, 1, none⟩ = some (.int .u8 ltr) ∧ w'.cell? ⟨w2.heap.size, 0, none⟩ = some (.string loc) ∧ w'.cell? ⟨w2.heap.size, 1, none⟩ = some (.int .i64 pax) ∧ w'.cell? ⟨p, 2, none⟩ = some (.map (some m))) := (fun w' hb => by
                have k1 := (HK12.out.below' b3).below' hb
                have k2 := (HK2.out.below' b3).below' hb
                have k3 := K3.below' hb
                exact ⟨k1.cell 0, k1.cell 1, k1.cell 2, k2.cell 0, k2.cell 1, k3.cell 0, k3.cell 1, ((HP.out.below' HB3.out).below' hb).cell 2⟩); obtain ⟨c0, c1, c2, d0, d1, _⟩ := HS.out w3 (Below.refl _ _); have HC3 := Lib.hid (HC.out w3 HB3.out); clear z3 b3 K3)
            | (go_at_call 30; refine HC3.out.mono ?_; rintro e w4 ⟨rfl, hb4⟩; clear c0 c1 c2 d0 d1; obtain ⟨c0, c1, c2, d0, d1, _⟩ := HS.out w4 hb4; have HB34 := Lib.hid hb4; have HB4 := Lib.hid (HB3.out.trans (hb4.mono HB3.out.size)); have HW4 := Lib.hid (HW.out w4 HB4.out); clear hb4)
            | (go_at_call 15; refine HW4.out.mono ?_; rintro e w5 ⟨rfl, hb5⟩; clear c0 c1 c2 d0 d1; have HB35 := Lib.hid (HB34.out.trans (hb5.mono HB34.out.size)); have HB5 := Lib.hid (HB4.out.trans (hb5.mono HB4.out.size)); clear hb5)
            | (refine Rw.wpList_alloc rfl 39 rfl [.string ⟨#[]⟩, .int .i64 0] Hd.zH ?_; intro w6 K6 b6 z6; have HB36 := Lib.hid (HB35.out.trans (b6.mono HB35.out.size)); have HB6 := Lib.hid (HB5.out.trans (b6.mono HB5.out.size)); have HK6 := Lib.hid K6; clear K6 b6 z6)
            | (refine Rw.wpList_store_whole rfl 39 _ _ rfl w5.heap.size rfl [.string loc, .int .i64 pax2] rfl _ _ HK6.out Hd.iH rfl Hd.one2 ?_; intro w7 K7 f7; have HB37 := Lib.hid (HB36.out.trans (f7.below HB36.out.size (fun k hk => by have h1 : k = w5.heap.size := hk; have h2 := HB35.out.size; omega))); have HB7 := Lib.hid (HB6.out.trans (f7.below HB6.out.size (fun k hk => by have h1 : k = w5.heap.size := hk; have h2 := HB5.out.size; omega))); obtain ⟨c0, c1, c2, d0, d1, g0, g1, q0⟩ := HS.out w7 HB37.out; have x0 : w7.cell? ⟨w5.heap.size, 0, none⟩ = some (.string loc) := K7.cell 0; have x1 : w7.cell? ⟨w5.heap.size, 1, none⟩ = some (.int .i64 pax2) := K7.cell 1; clear K7 f7))
          exact HX.out _ HB7.out
        · have hs2 := Fl.str_ne hs
          clear he hs
          go_enter Tryz.func12, Tryz.ntmps12
          go_wp2_with (first
            | (refine Rw.wpList_box rfl 35 _ rfl [.string car, .int .i64 num, .int .i64 day] rfl ?_; intro w1 K1 b1 z1; have HZ1 := Lib.hid z1; have HB1 := Lib.hid b1; have HK1 := Lib.hid K1; clear z1 b1 K1)
            | (refine Rw.wpList_box rfl 37 _ rfl [.int .i64 row, .int .u8 ltr] rfl ?_; intro w2 K2 b2 z2; have HZ2 := Lib.hid z2; have HB2 := Lib.hid (HB1.out.trans (b2.mono HB1.out.size)); have HK12 := Lib.hid (HK1.out.below' b2); have HK2 := Lib.hid K2; clear z2 b2 K2)
            | (refine Rw.wpList_box rfl 39 _ rfl [.string loc, .int .i64 pax] rfl ?_; intro w3 K3 b3 z3; have HZ3 := Lib.hid z3; have HB3 := Lib.hid (HB2.out.trans (b3.mono HB2.out.size)); have HS : Hid (∀ w', Below w3.heap.size w3 w' → w'.cell? ⟨w.heap.size, 0, none⟩ = some (.string car) ∧ w'.cell? ⟨w.heap.size, 1, none⟩ = some (.int .i64 num) ∧ w'.cell? ⟨w.heap.size, 2, none⟩ = some (.int .i64 day) ∧ w'.cell? ⟨w1.heap.size, 0, none⟩ = some (.int .i64 row) ∧ w'.cell? ⟨w1.heap.size, 1, none⟩ = some (.int .u8 ltr) ∧ w'.cell? ⟨w2.heap.size, 0, none⟩ = some (.string loc) ∧ w'.cell? ⟨w2.heap.size, 1, none⟩ = some (.int .i64 pax) ∧ w'.cell? ⟨p, 2, none⟩ = some (.map (some m))) := (fun w' hb => by
                have k1 := (HK12.out.below' b3).below' hb
                have k2 := (HK2.out.below' b3).below' hb
                have k3 := K3.below' hb
                exact ⟨k1.cell 0, k1.cell 1, k1.cell 2, k2.cell 0, k2.cell 1, k3.cell 0, k3.cell 1, ((HP.out.below' HB3.out).below' hb).cell 2⟩); obtain ⟨c0, c1, c2, d0, d1, _⟩ := HS.out w3 (Below.refl _ _); have HC3 := Lib.hid (HC.out w3 HB3.out); clear z3 b3 K3)
            | (go_at_call 30; refine HC3.out.mono ?_; rintro e w4 ⟨rfl, hb4⟩; clear c0 c1 c2 d0 d1; obtain ⟨c0, c1, c2, d0, d1, _⟩ := HS.out w4 hb4; have HB34 := Lib.hid hb4; have HB4 := Lib.hid (HB3.out.trans (hb4.mono HB3.out.size)); have HW4 := Lib.hid (HW.out w4 HB4.out); clear hb4)
            | (go_at_call 15; refine HW4.out.mono ?_; rintro e w5 ⟨rfl, hb5⟩; clear c0 c1 c2 d0 d1; have HB35 := Lib.hid (HB34.out.trans (hb5.mono HB34.out.size)); have HB5 := Lib.hid (HB4.out.trans (hb5.mono HB4.out.size)); clear hb5)
            | (refine Rw.wpList_alloc rfl 39 rfl [.string ⟨#[]⟩, .int .i64 0] Hd.zH ?_; intro w6 K6 b6 z6; have HB36 := Lib.hid (HB35.out.trans (b6.mono HB35.out.size)); have HB6 := Lib.hid (HB5.out.trans (b6.mono HB5.out.size)); have HK6 := Lib.hid K6; clear K6 b6 z6)
            | (refine Rw.wpList_store_whole rfl 39 _ _ rfl w5.heap.size rfl [.string loc2, .int .i64 pax2] rfl _ _ HK6.out Hd.iH rfl Hd.one2 ?_; intro w7 K7 f7; have HB37 := Lib.hid (HB36.out.trans (f7.below HB36.out.size (fun k hk => by have h1 : k = w5.heap.size := hk; have h2 := HB35.out.size; omega))); have HB7 := Lib.hid (HB6.out.trans (f7.below HB6.out.size (fun k hk => by have h1 : k = w5.heap.size := hk; have h2 := HB5.out.size; omega))); obtain ⟨c0, c1, c2, d0, d1, g0, g1, q0⟩ := HS.out w7 HB37.out; have x0 : w7.cell? ⟨w5.heap.size, 0, none⟩ = some (.string loc2) := K7.cell 0; have x1 : w7.cell? ⟨w5.heap.size, 1, none⟩ = some (.int .i64 pax2) := K7.cell 1; clear K7 f7))
          exact HX.out _ HB7.out
  · have hc2 : (Hd.chk (rs.map Fl.R.f) (gs.map Prod.snd) k != 0) = true := by simpa using hc
    have HX := Lib.hid (HR.out _ (Hd.takeC_chk (l := l) (h := h) hc) hc)
    clear hc hA hk HO HR HW
    generalize Hd.chk (rs.map Fl.R.f) (gs.map Prod.snd) k = cc at *
    generalize Hd.TakeIs w Bt p t m A cap rs gs l k h = post at *
    obtain ⟨car, num, day, row, ltr⟩ := k
    obtain ⟨loc, pax⟩ := h
    simp only at HC ⊢
    go_enter Tryz.func12, Tryz.ntmps12
    go_wp2_with (first
      | (refine Rw.wpList_box rfl 35 _ rfl [.string car, .int .i64 num, .int .i64 day] rfl ?_; intro w1 K1 b1 z1; have HZ1 := Lib.hid z1; have HB1 := Lib.hid b1; have HK1 := Lib.hid K1; clear z1 b1 K1)
      | (refine Rw.wpList_box rfl 37 _ rfl [.int .i64 row, .int .u8 ltr] rfl ?_; intro w2 K2 b2 z2; have HZ2 := Lib.hid z2; have HB2 := Lib.hid (HB1.out.trans (b2.mono HB1.out.size)); have HK12 := Lib.hid (HK1.out.below' b2); have HK2 := Lib.hid K2; clear z2 b2 K2)
      | (refine Rw.wpList_box rfl 39 _ rfl [.string loc, .int .i64 pax] rfl ?_; intro w3 K3 b3 z3; have HZ3 := Lib.hid z3; have HB3 := Lib.hid (HB2.out.trans (b3.mono HB2.out.size)); have HS : Hid (∀ w', Below w3.heap.size w3 w' → w'.cell? ⟨w.heap.size, 0, none⟩ = some (.string car) ∧ w'.cell? ⟨w.heap.size, 1, none⟩ = some (.int .i64 num) ∧ w'.cell? ⟨w.heap.size, 2, none⟩ = some (.int .i64 day) ∧ w'.cell? ⟨w1.heap.size, 0, none⟩ = some (.int .i64 row) ∧ w'.cell? ⟨w1.heap.size, 1, none⟩ = some (.int .u8 ltr) ∧ w'.cell? ⟨w2.heap.size, 0, none⟩ = some (.string loc) ∧ w'.cell? ⟨w2.heap.size, 1, none⟩ = some (.int .i64 pax) ∧ w'.cell? ⟨p, 2, none⟩ = some (.map (some m))) := (fun w' hb => by
          have k1 := (HK12.out.below' b3).below' hb
          have k2 := (HK2.out.below' b3).below' hb
          have k3 := K3.below' hb
          exact ⟨k1.cell 0, k1.cell 1, k1.cell 2, k2.cell 0, k2.cell 1, k3.cell 0, k3.cell 1, ((HP.out.below' HB3.out).below' hb).cell 2⟩); obtain ⟨c0, c1, c2, d0, d1, _⟩ := HS.out w3 (Below.refl _ _); have HC3 := Lib.hid (HC.out w3 HB3.out); clear z3 b3 K3)
      | (go_at_call 30; refine HC3.out.mono ?_; rintro e w4 ⟨rfl, hb4⟩; clear c0 c1 c2 d0 d1; obtain ⟨c0, c1, c2, d0, d1, _⟩ := HS.out w4 hb4; have HB34 := Lib.hid hb4; have HB4 := Lib.hid (HB3.out.trans (hb4.mono HB3.out.size)); clear hb4))
    exact HX.out _ HB4.out
end Go.Proofs.YtfodabbmjggieaaGreat
