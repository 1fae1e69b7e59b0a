/- Contract: On. -/
import Derived.Test.YtfodabbmjggieaaGreatHdHel
namespace Go.Proofs.YtfodabbmjggieaaGreat
open Go.RowKit Go.WideMaps
set_option linter.unusedVariables false

namespace Hd
def mkD (s : Int × Int) (h : H) : D := ⟨s.1, s.2, h.loc, h.pax⟩
def onF (l : List (K × H)) (x : L) (s : Int × Int) : Option D := (who l (mk x s)).map (mkD s)
/-- The seats of a leg that are somebody's. -/
def onL (fs : List Fl.F) (gs : List (Nat × Pl.P)) (l : List (K × H)) (x : L) : List D := match cab fs gs.length x.car x.num with
  | some i => match gs[i]? with
    | some g => (Pl.seatsOf g.2).filterMap (onF l x)
    | none => []
  | none => []
theorem onL_some {fs : List Fl.F} {gs : List (Nat × Pl.P)} {l : List (K × H)} {x : L} {i : Nat} (h : cab fs gs.length x.car x.num = some i) (hi : i < gs.length) : onL fs gs l x = (Pl.seatsOf gs[i].2).filterMap (onF l x) := by
  unfold onL; rw [h]; simp [hi]
theorem onL_none {fs : List Fl.F} {gs : List (Nat × Pl.P)} {l : List (K × H)} {x : L} (h : cab fs gs.length x.car x.num = none) : onL fs gs l x = [] := by
  unfold onL; rw [h]
def OnIs (w : World) (ds : List D) (e : Ending) (w' : World) : Prop :=
  ∃ B c, e = .returned (.slice B ds.length c) ∧ OwnD w' w.heap.size (.slice B ds.length c) ds ∧ Below w.heap.size w w'
theorem take_fm {sl : List (Int × Int)} {f : Int × Int → Option D} {k : Nat} (h : k < sl.length) : (sl.take (k + 1)).filterMap f = (sl.take k).filterMap f ++ (match f (Pl.gR sl k, Pl.gC sl k) with | some d => [d] | none => []) := by
  rw [List.take_succ_eq_append_getElem h, List.filterMap_append, Pl.gS sl k h]
  cases hf : f (Pl.gR sl k, Pl.gC sl k) <;> simp [hf]
theorem OwnD.low {w : World} {base base' : Nat} {v : Value} {ls : List D} (h : OwnD w base v ls) (hb : base' ≤ base) : OwnD w base' v ls := by
  obtain ⟨h1, h2 | ⟨g, cap, cur, hv, hg, h3⟩⟩ := h
  · exact ⟨h1, .inl h2⟩
  · exact ⟨h1, .inr ⟨g, cap, cur, hv, by omega, h3⟩⟩
end Hd
set_option maxHeartbeats 2000000 in
set_option maxRecDepth 20000 in
theorem on_any (Bt p t m : Nat) (A : Option Addr) (cap : Nat) (rs : List Fl.R) (gs : List (Nat × Pl.P)) (l : List (Hd.K × Hd.H)) (x : Hd.L) (w : World) (h : Hd.At w Bt p t m A cap rs gs l) (hx : Hd.OkL x) :
    Calls Tryz.prog 19 #[.pointer (some ⟨p, 0, none⟩), .agg #[.string x.car, .int .i64 x.num, .int .i64 x.day]] w (Hd.OnIs w (Hd.onL (rs.map Fl.R.f) gs l x)) := by
  have HC := Lib.hid (fun W (hb : Below w.heap.size w W) => cabin_any Bt p t m A cap rs gs l x W (h.kept hb) hx)
  cases hcab : Hd.cab (rs.map Fl.R.f) gs.length x.car x.num with
  | none =>
    rw [Hd.onL_none hcab]
    rw [Hd.cabP_none hcab] at HC
    clear h hx hcab
    obtain ⟨car, num, day⟩ := x
    simp only at HC ⊢
    go_enter Tryz.func19, Tryz.ntmps19
    go_wp2_with (first
      | (refine Rw.wpList_box rfl 35 _ rfl [.string car, .int .i64 num, .int .i64 day] rfl ?_; intro w1 K1 b1 z1; have c0 := K1.cell 0; have c1 := K1.cell 1; have c2 := K1.cell 2; simp only [List.getElem?_cons_zero, List.getElem?_cons_succ] at c0 c1 c2; have HC1 := Lib.hid (HC.out w1 b1))
      | (go_at_call 34; refine HC1.out.mono ?_; rintro e w2 ⟨rfl, hb2⟩))
    go_ret
    exact ⟨none, 0, rfl, ⟨rfl, .inl ⟨rfl, rfl⟩⟩, b1.trans (hb2.mono b1.size)⟩
  | some i =>
    obtain ⟨hi, hP⟩ := Hd.cabP_some (gs := gs) hcab
    rw [Hd.onL_some hcab hi]
    rw [hP] at HC
    have hok := h.pok _ (List.getElem_mem hi)
    have HSe := Lib.hid (fun W (hb : Below w.heap.size w W) => by
      obtain ⟨base, hM⟩ := (h.kept hb).env.env.maps i hi
      exact seats_any gs[i].2 base gs[i].1 W hok.1 hok.2 hM)
    have hlen : (Pl.seatsOf gs[i].2).length ≤ 600 := Nat.le_trans (List.length_filter_le _ _) (Pl.all_len hok.2 hok.1)
    have HW := Lib.hid (fun (s : Int × Int) (hs : s ∈ Pl.seatsOf gs[i].2) W (hb : Below w.heap.size w W) => by
      have hws := Pl.all_WS hok.1 (List.mem_filter.1 hs).1
      exact who_any Bt p t m A cap rs gs l (Hd.mk x s) W (h.kept hb) ⟨hx, hws.1, hws.2.1, hws.2.2.1, hws.2.2.2⟩)
    have HTK := Lib.hid (fun k (hk : k < (Pl.seatsOf gs[i].2).length) => Hd.take_fm (f := Hd.onF l x) hk)
    have HRS : Hid (((Pl.seatsOf gs[i].2).take (Pl.seatsOf gs[i].2).length).filterMap (Hd.onF l x) = (Pl.seatsOf gs[i].2).filterMap (Hd.onF l x)) := show _ = _ by rw [List.take_length]
    have HMEM : Hid (∀ k, k < (Pl.seatsOf gs[i].2).length → (Pl.gR (Pl.seatsOf gs[i].2) k, Pl.gC (Pl.seatsOf gs[i].2) k) ∈ Pl.seatsOf gs[i].2) := fun k hk => by rw [← Pl.gS _ _ hk]; exact List.getElem_mem hk
    generalize gs[i].1 = gi at *
    generalize Pl.seatsOf gs[i].2 = sl at *
    clear h hx hcab hP hi hok
    obtain ⟨car, num, day⟩ := x
    unfold Hd.mk at HW
    simp only at HC HW ⊢
    go_enter Tryz.func19, Tryz.ntmps19
    go_wp2_with (first
      | (refine Rw.wpList_box rfl 35 _ rfl [.string car, .int .i64 num, .int .i64 day] rfl ?_; intro w1 K1 b1 z1; have c0 := K1.cell 0; have c1 := K1.cell 1; have c2 := K1.cell 2; simp only [List.getElem?_cons_zero, List.getElem?_cons_succ] at c0 c1 c2; have HC1 := Lib.hid (HC.out w1 b1); have HZ1 := Lib.hid z1; clear z1)
      | (go_at_call 34; refine HC1.out.mono ?_; rintro e w2 ⟨rfl, hb2⟩; have HB2 := Lib.hid (b1.trans (hb2.mono b1.size)); have HS2 := Lib.hid (HSe.out w2 HB2.out))
      | (go_at_call 35; refine HS2.out.mono ?_; rintro e w3 ⟨A3, c3, rfl, hO3, hb3⟩; have HB3 := Lib.hid (HB2.out.trans (hb3.mono HB2.out.size)); have HO3 := Lib.hid hO3; have HK3 := Lib.hid ((K1.below' hb2).below' hb3); clear hO3))
    have hs3 := HB3.out.size
    have hz1 : w.heap.size < w1.heap.size := by have := HZ1.out; omega
    have hlt3 : w.heap.size < w3.heap.size := by have := HB2.out.size; have h1 := hb2.size; have h2 := hb3.size; omega
    clear c0 c1 c2 b1 hb2 hb3 K1 HC1 HS2 HC HSe
    go_loopw [6, 19] (fun out i wr => ∃ (k : Nat) (ds : List Hd.D) (B : Option Addr) (c : Nat), k ≤ sl.length ∧ i = .int .i64 k ∧ out = .slice B ds.length c ∧ ds.length ≤ k ∧ Hid (Hd.OwnD wr w3.heap.size (.slice B ds.length c) ds) ∧ Hid ((sl.take k).filterMap (Hd.onF l ⟨car, num, day⟩) = ds) ∧ Hid (Below w3.heap.size w3 wr)) (fun _ i _ => sl.length - (intOf i).toNat)
    case atStart => exact ⟨0, [], none, 0, by omega, rfl, rfl, by simp, ⟨rfl, .inl ⟨rfl, rfl⟩⟩, show _ = _ by simp, Below.refl _ _⟩
    case round =>
      obtain ⟨k, ds, B, c, hk, rfl, rfl, hlk, HO, HL, HB⟩ := hrel
      have hzr := HB.out.size
      by_cases hlt : k < sl.length
      · obtain ⟨b, rfl, hb, hbb, q0, q1⟩ := HO3.out.at k hlt
        have p0 : wr.cell? ⟨b, k * 2, none⟩ = some (.int .i64 (Pl.gR sl k)) := (HB.out.cell (p := ⟨b, k * 2, none⟩) hb).trans q0
        have p1 : wr.cell? ⟨b, k * 2 + 1, none⟩ = some (.int .u8 (Pl.gC sl k)) := (HB.out.cell (p := ⟨b, k * 2 + 1, none⟩) hb).trans q1
        have HT := Lib.hid (HTK.out k hlt)
        have HWk := Lib.hid (HW.out _ (HMEM.out k hlt))
        have HKr := Lib.hid (HK3.out.below' HB.out)
        have HBw := Lib.hid (HB3.out.trans (HB.out.mono hs3))
        generalize Pl.gR sl k = sr at *
        generalize Pl.gC sl k = sc at *
        cases hh : Hd.who l ⟨car, num, day, sr, sc⟩ with
        | none =>
          have hF : Hd.onF l ⟨car, num, day⟩ (sr, sc) = none := by unfold Hd.onF Hd.mk; simp only; rw [hh]; rfl
          have HT2 : Hid ((sl.take (k + 1)).filterMap (Hd.onF l ⟨car, num, day⟩) = ds) := show _ = _ by rw [HT.out, HL.out, hF]; simp
          have e1 : Hd.whoH l ⟨car, num, day, sr, sc⟩ = Hd.h0 := by unfold Hd.whoH; rw [hh]; rfl
          rw [e1, hh] at HWk
          unfold Hd.h0 at HWk
          simp only [Option.isSome_none] at HWk
          clear hh hF e1 HT
          go_wp2_with (first
            | (refine Rw.wpList_alloc rfl 37 rfl [.int .i64 0, .int .u8 0] Pl.zSeat ?_; intro w4 K4 b4 z4; clear z4)
            | (refine Rw.wpList_store_whole rfl 37 _ _ rfl wr.heap.size rfl [.int .i64 sr, .int .u8 sc] rfl _ _ K4 Pl.iSeat rfl (by intro v hv; simp at hv; rcases hv with rfl | rfl <;> rfl) ?_; intro w5 K5 f5; have b5 : Below wr.heap.size wr w5 := b4.trans (f5.below b4.size (fun k hk => Nat.le_of_eq hk.symm)); have HB5 := Lib.hid (HBw.out.trans (b5.mono HBw.out.size)); have KL5 := HKr.out.below' b5; have c0 : w5.cell? ⟨w.heap.size, 0, none⟩ = some (.string car) := KL5.cell 0; have c1 : w5.cell? ⟨w.heap.size, 1, none⟩ = some (.int .i64 num) := KL5.cell 1; have c2 : w5.cell? ⟨w.heap.size, 2, none⟩ = some (.int .i64 day) := KL5.cell 2; have d0 : w5.cell? ⟨wr.heap.size, 0, none⟩ = some (.int .i64 sr) := K5.cell 0; have d1 : w5.cell? ⟨wr.heap.size, 1, none⟩ = some (.int .u8 sc) := K5.cell 1; have HW5 := Lib.hid (HWk.out w5 HB5.out))
            | (go_at_call 15; refine HW5.out.mono ?_; rintro e w6 ⟨rfl, hb6⟩; clear c0 c1 c2 d0 d1; have b6 : Below wr.heap.size wr w6 := b5.trans (hb6.mono b5.size))
            | (refine Rw.wpList_alloc rfl 39 rfl [.string ⟨#[]⟩, .int .i64 0] Hd.zH ?_; intro w7 K7 b7 z7; have b07 : Below wr.heap.size wr w7 := b6.trans (b7.mono b6.size); clear z7)
            | (refine Rw.wpList_store_whole rfl 39 _ _ rfl w6.heap.size rfl [.string ⟨#[]⟩, .int .i64 0] rfl _ _ K7 Hd.iH rfl Hd.one2 ?_; intro w8 K8 f8; have b08 : Below wr.heap.size wr w8 := b07.trans (f8.below b07.size (fun k hk => by have h1 : k = w6.heap.size := hk; have h2 := b6.size; omega))))
          go_roundw
          case rel => exact ⟨k + 1, ds, B, c, by omega, by go_num, rfl, by omega, HO.out.below b08 |> fun h => h, HT2, HB.out.trans (b08.mono hzr)⟩
          case measure => simp [intOf]; omega
        | some hol =>
          have hF : Hd.onF l ⟨car, num, day⟩ (sr, sc) = some (Hd.mkD (sr, sc) hol) := by unfold Hd.onF Hd.mk; simp only; rw [hh]; rfl
          have HT2 : Hid ((sl.take (k + 1)).filterMap (Hd.onF l ⟨car, num, day⟩) = ds ++ [Hd.mkD (sr, sc) hol]) := show _ = _ by rw [HT.out, HL.out, hF]
          have e1 : Hd.whoH l ⟨car, num, day, sr, sc⟩ = hol := by unfold Hd.whoH; rw [hh]; rfl
          rw [e1, hh] at HWk
          obtain ⟨loc, pax⟩ := hol
          unfold Hd.mkD at HT2
          simp only [Option.isSome_some] at HWk HT2
          have hl6 : ds.length < 100000 := by omega
          clear hh hF e1 HT
          go_wp2_with (first
            | (refine Rw.wpList_alloc rfl 37 rfl [.int .i64 0, .int .u8 0] Pl.zSeat ?_; intro w4 K4 b4 z4; clear z4)
            | (refine Rw.wpList_store_whole rfl 37 _ _ rfl wr.heap.size rfl [.int .i64 sr, .int .u8 sc] rfl _ _ K4 Pl.iSeat rfl (by intro v hv; simp at hv; rcases hv with rfl | rfl <;> rfl) ?_; intro w5 K5 f5; have b5 : Below wr.heap.size wr w5 := b4.trans (f5.below b4.size (fun k hk => Nat.le_of_eq hk.symm)); have HB5 := Lib.hid (HBw.out.trans (b5.mono HBw.out.size)); have KL5 := HKr.out.below' b5; have c0 : w5.cell? ⟨w.heap.size, 0, none⟩ = some (.string car) := KL5.cell 0; have c1 : w5.cell? ⟨w.heap.size, 1, none⟩ = some (.int .i64 num) := KL5.cell 1; have c2 : w5.cell? ⟨w.heap.size, 2, none⟩ = some (.int .i64 day) := KL5.cell 2; have d0 : w5.cell? ⟨wr.heap.size, 0, none⟩ = some (.int .i64 sr) := K5.cell 0; have d1 : w5.cell? ⟨wr.heap.size, 1, none⟩ = some (.int .u8 sc) := K5.cell 1; have HW5 := Lib.hid (HWk.out w5 HB5.out))
            | (go_at_call 15; refine HW5.out.mono ?_; rintro e w6 ⟨rfl, hb6⟩; clear c0 c1 c2 d0 d1; have HK56 := Lib.hid (K5.below' hb6); have b6 : Below wr.heap.size wr w6 := b5.trans (hb6.mono b5.size))
            | (refine Rw.wpList_alloc rfl 39 rfl [.string ⟨#[]⟩, .int .i64 0] Hd.zH ?_; intro w7 K7 b7 z7; have b07 : Below wr.heap.size wr w7 := b6.trans (b7.mono b6.size); have HK57 := Lib.hid (HK56.out.below' b7); clear z7)
            | (refine Rw.wpList_store_whole rfl 39 _ _ rfl w6.heap.size rfl [.string loc, .int .i64 pax] rfl _ _ K7 Hd.iH rfl Hd.one2 ?_; intro w8 K8 f8; have b08 : Below wr.heap.size wr w8 := b07.trans (f8.below b07.size (fun k hk => by have h1 : k = w6.heap.size := hk; have h2 := b6.size; omega)); have K58 := HK57.out.kept (f8.block _ HK57.out.lt (show ¬ (wr.heap.size = w6.heap.size) by have := HK56.out.lt; omega)); have d0 : w8.cell? ⟨wr.heap.size, 0, none⟩ = some (.int .i64 sr) := K58.cell 0; have d1 : w8.cell? ⟨wr.heap.size, 1, none⟩ = some (.int .u8 sc) := K58.cell 1; have g0 : w8.cell? ⟨w6.heap.size, 0, none⟩ = some (.string loc) := K8.cell 0; have g1 : w8.cell? ⟨w6.heap.size, 1, none⟩ = some (.int .i64 pax) := K8.cell 1; have HO8 := Lib.hid (HO.out.below b08))
            | (refine Hd.wpList_buildD rfl _ rfl ⟨sr, sc, loc, pax⟩ rfl ?_; intro w9 HK9 hb9 hz9; have HO9 := Lib.hid (HO8.out.below hb9); have b09 : Below wr.heap.size wr w9 := b08.trans (hb9.mono b08.size); have hs9 : w3.heap.size ≤ w9.heap.size := Nat.le_trans hzr b09.size)
            | (refine Hd.wpList_appendD rfl _ _ rfl w3.heap.size (.slice B ds.length c) ds ⟨sr, sc, loc, pax⟩ HO9.out rfl _ rfl HK9.out hl6 hs9 ?_; intro v10 w10 HO10 HB10 HT10))
          obtain ⟨B10, c10, hv10⟩ := HO10.out.slice
          subst hv10
          go_roundw
          case rel => exact ⟨k + 1, ds ++ [⟨sr, sc, loc, pax⟩], B10, c10, by omega, by go_num, rfl, by simp; omega, HO10, HT2, (HB.out.trans (b09.mono hzr)).trans HB10.out⟩
          case measure => simp [intOf]; omega
      · have hkn : k = sl.length := by omega
        subst hkn
        rw [HRS.out] at HL
        have h1 := HL.out
        clear HL
        subst h1
        go_wp2
        go_ret
        exact ⟨B, c, rfl, HO.out.low hs3, HB3.out.trans (HB.out.mono hs3)⟩
end Go.Proofs.YtfodabbmjggieaaGreat
