/- Contracts of Sell and Cancel. -/
import Derived.Test.YtmcekicaigbccaaGreatStPut
namespace Go.Proofs.YtmcekicaigbccaaGreat
open Go.RowKit Go.WideMaps
set_option linter.unusedVariables false

namespace St
def sellE' (lv er so n : Int) : Int := if party n then (if er = 0 then (if lv < so + n then 13 else 0) else er) else 1
def sellE (rs : List Fl.R) (l : List (K × Int)) (k : K) (n : Int) : Int := sellE' (lvl rs k) (err rs k) (sold l k) n
/-- How many are sold behind it. -/
def sellA (rs : List Fl.R) (l : List (K × Int)) (k : K) (n : Int) : Int := if sellE rs l k n = 0 then sold l k + n else sold l k
def cancelE' (lv er so n : Int) : Int := if party n then (if er = 0 then (if so < n then 7 else 0) else er) else 1
def cancelE (rs : List Fl.R) (l : List (K × Int)) (k : K) (n : Int) : Int := cancelE' (lvl rs k) (err rs k) (sold l k) n
def cancelA (rs : List Fl.R) (l : List (K × Int)) (k : K) (n : Int) : Int := if cancelE rs l k n = 0 then sold l k - n else sold l k
theorem put_same {w w' : World} {Bt p t m : Nat} {rs : List Fl.R} {l : List (K × Int)} (h : At w Bt p t m rs l) {k : K} (hb : Below w.heap.size w w') : PutIs w Bt p t m rs l k (sold l k) w' :=
  ⟨l, h.kept hb, fun k' => by by_cases e : k' = k <;> simp [e], Rw.Fr.of_below hb⟩
theorem PutIs.low {w0 w w' : World} {Bt p t m : Nat} {rs : List Fl.R} {l : List (K × Int)} {k : K} {n : Int} (h : PutIs w Bt p t m rs l k n w') (hb : Below w0.heap.size w0 w) : PutIs w0 Bt p t m rs l k n w' := by
  obtain ⟨l', h1, h2, h3⟩ := h
  exact ⟨l', h1, h2, (Rw.Fr.of_below hb).trans h3 (fun _ _ e => e)⟩
end St
set_option maxHeartbeats 1000000 in
set_option maxRecDepth 20000 in
theorem sell_any (Bt p t m : Nat) (rs : List Fl.R) (l : List (St.K × Int)) (k : St.K) (n : Int) (w : World) (h : St.At w Bt p t m rs l) (hk : St.OkK k) (hn0 : -9223372036854775808 ≤ n) (hn1 : n ≤ 9223372036854775807) :
    Calls Tryz.prog 19 #[.pointer (some ⟨p, 0, none⟩), .agg #[.string k.car, .int .i64 k.num, .int .i64 k.day], .int .u8 k.cls, .int .i64 n] w fun e w' => e = .returned (.int .i64 (St.sellE rs l k n)) ∧ St.PutIs w Bt p t m rs l k (St.sellA rs l k n) w' := by
  have HLv := Lib.hid (fun W (hb : Below w.heap.size w W) => slevel_any Bt p t m rs l k W (h.kept hb) hk)
  have HSo := Lib.hid (fun W (hb : Below w.heap.size w W) => ssold_any Bt p t m rs l k W (h.kept hb) hk)
  have HPu := Lib.hid (fun (x : Int) (h0 : 0 ≤ x) (h1 : x ≤ St.lvl rs k) W (hb : Below w.heap.size w W) => put_any Bt p t m rs l k x W (h.kept hb) hk h0 h1)
  have HNo := Lib.hid (fun W (hb : Below w.heap.size w W) => St.put_same h (k := k) hb)
  obtain ⟨hv0, hv1, hv2⟩ := h.bound k
  have hle := Fl.level_err (fs := rs.map Fl.R.f) k.car k.num k.day k.cls
  have HP := Lib.hid h.blk
  have hpl := h.blk.lt
  have HC : Hid (St.sellE rs l k n = St.sellE' (St.lvl rs k) (St.err rs k) (St.sold l k) n) := show _ = _ by rfl
  have HA : Hid (St.sellA rs l k n = if St.sellE' (St.lvl rs k) (St.err rs k) (St.sold l k) n = 0 then St.sold l k + n else St.sold l k) := show _ = _ by rfl
  have hle2 : St.err rs k = 0 ∨ St.err rs k = 9 ∨ St.err rs k = 12 := by
    rcases hle with h | h | h
    · exact .inl h
    · exact .inr (.inl h.1)
    · exact .inr (.inr h.1)
  clear h hk hle
  generalize St.sellE rs l k n = cd at *
  generalize St.sellA rs l k n = af at *
  generalize St.sold l k = so at *
  generalize St.lvl rs k = lv at *
  generalize St.err rs k = er at *
  obtain ⟨car, num, day, cls⟩ := k
  simp only at HLv HSo HPu HNo ⊢
  obtain ⟨w1, ew1⟩ : ∃ x, x = w.alloc (.cells #[.string car, .int .i64 num, .int .i64 day] 34) := ⟨_, rfl⟩
  have hb1 : Below w.heap.size w w1 := by rw [ew1]; exact (Below.refl _ _).alloc (Nat.le_refl _) _
  have K1 : Rw.Blk w1 w.heap.size 34 [.string car, .int .i64 num, .int .i64 day] := by rw [ew1]; exact heap_alloc_new w _
  have HS : Hid (∀ w', Below w1.heap.size w1 w' → w'.cell? ⟨w.heap.size, 0, none⟩ = some (.string car) ∧ w'.cell? ⟨w.heap.size, 1, none⟩ = some (.int .i64 num) ∧ w'.cell? ⟨w.heap.size, 2, none⟩ = some (.int .i64 day) ∧ w'.cell? ⟨p, 0, none⟩ = some (.pointer (some ⟨t, 0, none⟩))) := fun w' hb => by
    have k1 := K1.below' hb
    have k2 := (HP.out.below' hb1).below' hb
    exact ⟨k1.cell 0, k1.cell 1, k1.cell 2, k2.cell 0⟩
  have HB1 := Lib.hid hb1
  clear K1 hb1
  cases hpa : St.party n with
  | false =>
    have HC2 : Hid (cd = 1) := show _ = _ by rw [HC.out]; unfold St.sellE'; simp [*]
    have HA2 : Hid (af = so) := show _ = _ by rw [HA.out, if_neg (by rw [← HC.out, HC2.out]; decide)]
    clear HC HA
    go_enter Tryz.func19, Tryz.ntmps19
    go_wp2_with (first
      | (go_at_call 42; refine (isParty_any _ _).mono ?_; rintro e w' ⟨rfl, rfl⟩))
    rw [← ew1]
    go_ret
    exact ⟨by (have e := HC2.out; subst e; rfl), by rw [HA2.out]; exact HNo.out _ HB1.out⟩
  | true =>
    have hpn : 1 ≤ n ∧ n ≤ 9 := by simpa [St.party, Fl.inI] using hpa
    by_cases he : er = 0
    · subst he
      by_cases hc : lv < so + n
      · have HC2 : Hid (cd = 13) := show _ = _ by rw [HC.out]; unfold St.sellE'; simp [*]
        have HA2 : Hid (af = so) := show _ = _ by rw [HA.out, if_neg (by rw [← HC.out, HC2.out]; decide)]
        clear HC HA
        skip
        go_enter Tryz.func19, Tryz.ntmps19
        go_wp2_with (first
          | (go_at_call 42; refine (isParty_any _ _).mono ?_; rintro e w' ⟨rfl, rfl⟩))
        rw [← ew1]
        clear ew1
        go_region_held3 (fun w' => w'.cell? ⟨w.heap.size, 0, none⟩ = some (.string car) ∧ w'.cell? ⟨w.heap.size, 1, none⟩ = some (.int .i64 num) ∧ w'.cell? ⟨w.heap.size, 2, none⟩ = some (.int .i64 day) ∧ w'.cell? ⟨p, 0, none⟩ = some (.pointer (some ⟨t, 0, none⟩))) (first | exact HS.out _ (Below.refl _ _) | exact HS.out _ (Below.refl _ _).drew | exact HS.out _ ((Below.refl _ _).drew.trans hb2)) (first
          | (go_at_call 43; refine (HLv.out _ HB1.out.drew).mono ?_; rintro e w2 ⟨rfl, hb2⟩))
        obtain ⟨k0, k1, k2, k3⟩ := HS.out _ ((Below.refl _ _).drew.trans hb2)
        have HB2 := Lib.hid (HB1.out.drew.trans (hb2.mono HB1.out.size))
        go_wp2_with (first
          | (go_at_call 18; refine (HSo.out _ HB2.out).mono ?_; rintro e w3 ⟨rfl, hb3⟩; have HB3 := Lib.hid (HB2.out.trans (hb3.mono HB2.out.size)); obtain ⟨j0, j1, j2, j3⟩ := HS.out _ (((Below.refl _ _).drew.trans hb2).trans (hb3.mono hb2.size))))
        go_ret
        exact ⟨by (have e := HC2.out; subst e; rfl), by rw [HA2.out]; exact HNo.out _ HB3.out⟩
      · have HC2 : Hid (cd = 0) := show _ = _ by rw [HC.out]; unfold St.sellE'; simp [*]
        have HA2 : Hid (af = so + n) := show _ = _ by rw [HA.out, if_pos (by rw [← HC.out, HC2.out])]
        clear HC HA
        skip
        go_enter Tryz.func19, Tryz.ntmps19
        go_wp2_with (first
          | (go_at_call 42; refine (isParty_any _ _).mono ?_; rintro e w' ⟨rfl, rfl⟩))
        rw [← ew1]
        clear ew1
        go_region_held3 (fun w' => w'.cell? ⟨w.heap.size, 0, none⟩ = some (.string car) ∧ w'.cell? ⟨w.heap.size, 1, none⟩ = some (.int .i64 num) ∧ w'.cell? ⟨w.heap.size, 2, none⟩ = some (.int .i64 day) ∧ w'.cell? ⟨p, 0, none⟩ = some (.pointer (some ⟨t, 0, none⟩))) (first | exact HS.out _ (Below.refl _ _) | exact HS.out _ (Below.refl _ _).drew | exact HS.out _ ((Below.refl _ _).drew.trans hb2)) (first
          | (go_at_call 43; refine (HLv.out _ HB1.out.drew).mono ?_; rintro e w2 ⟨rfl, hb2⟩))
        obtain ⟨k0, k1, k2, k3⟩ := HS.out _ ((Below.refl _ _).drew.trans hb2)
        have HB2 := Lib.hid (HB1.out.drew.trans (hb2.mono HB1.out.size))
        go_wp2_with (first
          | (go_at_call 18; refine (HSo.out _ HB2.out).mono ?_; rintro e w3 ⟨rfl, hb3⟩; have HB3 := Lib.hid (HB2.out.trans (hb3.mono HB2.out.size)); obtain ⟨j0, j1, j2, j3⟩ := HS.out _ (((Below.refl _ _).drew.trans hb2).trans (hb3.mono hb2.size)))
          | (go_at_call 44; refine (HPu.out (so + n) (by omega) (by omega) _ HB3.out).mono ?_; rintro e w4 ⟨rfl, hP⟩))
        go_ret
        exact ⟨by (have e := HC2.out; subst e; rfl), by rw [HA2.out]; exact hP.low HB3.out⟩
    · have HC2 : Hid (cd = er) := show _ = _ by rw [HC.out]; unfold St.sellE'; simp [*]
      have HA2 : Hid (af = so) := show _ = _ by rw [HA.out, if_neg (by rw [← HC.out, HC2.out]; exact he)]
      have hne : (er == 0) = false := by simp [he]
      have hne2 : (er != 0) = true := by simp [he]
      clear HC HA he hle2
      go_enter Tryz.func19, Tryz.ntmps19
      go_wp2_with (first
        | (go_at_call 42; refine (isParty_any _ _).mono ?_; rintro e w' ⟨rfl, rfl⟩))
      rw [← ew1]
      clear ew1
      go_region_held3 (fun w' => w'.cell? ⟨w.heap.size, 0, none⟩ = some (.string car) ∧ w'.cell? ⟨w.heap.size, 1, none⟩ = some (.int .i64 num) ∧ w'.cell? ⟨w.heap.size, 2, none⟩ = some (.int .i64 day) ∧ w'.cell? ⟨p, 0, none⟩ = some (.pointer (some ⟨t, 0, none⟩))) (first | exact HS.out _ (Below.refl _ _) | exact HS.out _ (Below.refl _ _).drew | exact HS.out _ ((Below.refl _ _).drew.trans hb2)) (first
        | (go_at_call 43; refine (HLv.out _ HB1.out.drew).mono ?_; rintro e w2 ⟨rfl, hb2⟩))
      obtain ⟨k0, k1, k2, k3⟩ := HS.out _ ((Below.refl _ _).drew.trans hb2)
      have HB2 := Lib.hid (HB1.out.drew.trans (hb2.mono HB1.out.size))
      go_wp2
      go_ret
      exact ⟨by (have e := HC2.out; subst e; rfl), by rw [HA2.out]; exact HNo.out _ HB2.out⟩
set_option maxHeartbeats 1000000 in
set_option maxRecDepth 20000 in
theorem cancel_any (Bt p t m : Nat) (rs : List Fl.R) (l : List (St.K × Int)) (k : St.K) (n : Int) (w : World) (h : St.At w Bt p t m rs l) (hk : St.OkK k) (hn0 : -9223372036854775808 ≤ n) (hn1 : n ≤ 9223372036854775807) :
    Calls Tryz.prog 20 #[.pointer (some ⟨p, 0, none⟩), .agg #[.string k.car, .int .i64 k.num, .int .i64 k.day], .int .u8 k.cls, .int .i64 n] w fun e w' => e = .returned (.int .i64 (St.cancelE rs l k n)) ∧ St.PutIs w Bt p t m rs l k (St.cancelA rs l k n) w' := by
  have HLv := Lib.hid (fun W (hb : Below w.heap.size w W) => slevel_any Bt p t m rs l k W (h.kept hb) hk)
  have HSo := Lib.hid (fun W (hb : Below w.heap.size w W) => ssold_any Bt p t m rs l k W (h.kept hb) hk)
  have HPu := Lib.hid (fun (x : Int) (h0 : 0 ≤ x) (h1 : x ≤ St.lvl rs k) W (hb : Below w.heap.size w W) => put_any Bt p t m rs l k x W (h.kept hb) hk h0 h1)
  have HNo := Lib.hid (fun W (hb : Below w.heap.size w W) => St.put_same h (k := k) hb)
  obtain ⟨hv0, hv1, hv2⟩ := h.bound k
  have hle := Fl.level_err (fs := rs.map Fl.R.f) k.car k.num k.day k.cls
  have HP := Lib.hid h.blk
  have hpl := h.blk.lt
  have HC : Hid (St.cancelE rs l k n = St.cancelE' (St.lvl rs k) (St.err rs k) (St.sold l k) n) := show _ = _ by rfl
  have HA : Hid (St.cancelA rs l k n = if St.cancelE' (St.lvl rs k) (St.err rs k) (St.sold l k) n = 0 then St.sold l k - n else St.sold l k) := show _ = _ by rfl
  have hle2 : St.err rs k = 0 ∨ St.err rs k = 9 ∨ St.err rs k = 12 := by
    rcases hle with h | h | h
    · exact .inl h
    · exact .inr (.inl h.1)
    · exact .inr (.inr h.1)
  clear h hk hle
  generalize St.cancelE rs l k n = cd at *
  generalize St.cancelA rs l k n = af at *
  generalize St.sold l k = so at *
  generalize St.lvl rs k = lv at *
  generalize St.err rs k = er at *
  obtain ⟨car, num, day, cls⟩ := k
  simp only at HLv HSo HPu HNo ⊢
  obtain ⟨w1, ew1⟩ : ∃ x, x = w.alloc (.cells #[.string car, .int .i64 num, .int .i64 day] 34) := ⟨_, rfl⟩
  have hb1 : Below w.heap.size w w1 := by rw [ew1]; exact (Below.refl _ _).alloc (Nat.le_refl _) _
  have K1 : Rw.Blk w1 w.heap.size 34 [.string car, .int .i64 num, .int .i64 day] := by rw [ew1]; exact heap_alloc_new w _
  have HS : Hid (∀ w', Below w1.heap.size w1 w' → w'.cell? ⟨w.heap.size, 0, none⟩ = some (.string car) ∧ w'.cell? ⟨w.heap.size, 1, none⟩ = some (.int .i64 num) ∧ w'.cell? ⟨w.heap.size, 2, none⟩ = some (.int .i64 day) ∧ w'.cell? ⟨p, 0, none⟩ = some (.pointer (some ⟨t, 0, none⟩))) := fun w' hb => by
    have k1 := K1.below' hb
    have k2 := (HP.out.below' hb1).below' hb
    exact ⟨k1.cell 0, k1.cell 1, k1.cell 2, k2.cell 0⟩
  have HB1 := Lib.hid hb1
  clear K1 hb1
  cases hpa : St.party n with
  | false =>
    have HC2 : Hid (cd = 1) := show _ = _ by rw [HC.out]; unfold St.cancelE'; simp [*]
    have HA2 : Hid (af = so) := show _ = _ by rw [HA.out, if_neg (by rw [← HC.out, HC2.out]; decide)]
    clear HC HA
    go_enter Tryz.func20, Tryz.ntmps20
    go_wp2_with (first
      | (go_at_call 42; refine (isParty_any _ _).mono ?_; rintro e w' ⟨rfl, rfl⟩))
    rw [← ew1]
    go_ret
    exact ⟨by (have e := HC2.out; subst e; rfl), by rw [HA2.out]; exact HNo.out _ HB1.out⟩
  | true =>
    have hpn : 1 ≤ n ∧ n ≤ 9 := by simpa [St.party, Fl.inI] using hpa
    by_cases he : er = 0
    · subst he
      by_cases hc : so < n
      · have HC2 : Hid (cd = 7) := show _ = _ by rw [HC.out]; unfold St.cancelE'; simp [*]
        have HA2 : Hid (af = so) := show _ = _ by rw [HA.out, if_neg (by rw [← HC.out, HC2.out]; decide)]
        clear HC HA
        skip
        go_enter Tryz.func20, Tryz.ntmps20
        go_wp2_with (first
          | (go_at_call 42; refine (isParty_any _ _).mono ?_; rintro e w' ⟨rfl, rfl⟩))
        rw [← ew1]
        clear ew1
        go_region_held3 (fun w' => w'.cell? ⟨w.heap.size, 0, none⟩ = some (.string car) ∧ w'.cell? ⟨w.heap.size, 1, none⟩ = some (.int .i64 num) ∧ w'.cell? ⟨w.heap.size, 2, none⟩ = some (.int .i64 day) ∧ w'.cell? ⟨p, 0, none⟩ = some (.pointer (some ⟨t, 0, none⟩))) (first | exact HS.out _ (Below.refl _ _) | exact HS.out _ (Below.refl _ _).drew | exact HS.out _ ((Below.refl _ _).drew.trans hb2)) (first
          | (go_at_call 43; refine (HLv.out _ HB1.out.drew).mono ?_; rintro e w2 ⟨rfl, hb2⟩))
        obtain ⟨k0, k1, k2, k3⟩ := HS.out _ ((Below.refl _ _).drew.trans hb2)
        have HB2 := Lib.hid (HB1.out.drew.trans (hb2.mono HB1.out.size))
        go_wp2_with (first
          | (go_at_call 18; refine (HSo.out _ HB2.out).mono ?_; rintro e w3 ⟨rfl, hb3⟩; have HB3 := Lib.hid (HB2.out.trans (hb3.mono HB2.out.size)); obtain ⟨j0, j1, j2, j3⟩ := HS.out _ (((Below.refl _ _).drew.trans hb2).trans (hb3.mono hb2.size))))
        go_ret
        exact ⟨by (have e := HC2.out; subst e; rfl), by rw [HA2.out]; exact HNo.out _ HB3.out⟩
      · have HC2 : Hid (cd = 0) := show _ = _ by rw [HC.out]; unfold St.cancelE'; simp [*]
        have HA2 : Hid (af = so - n) := show _ = _ by rw [HA.out, if_pos (by rw [← HC.out, HC2.out])]
        clear HC HA
        skip
        go_enter Tryz.func20, Tryz.ntmps20
        go_wp2_with (first
          | (go_at_call 42; refine (isParty_any _ _).mono ?_; rintro e w' ⟨rfl, rfl⟩))
        rw [← ew1]
        clear ew1
        go_region_held3 (fun w' => w'.cell? ⟨w.heap.size, 0, none⟩ = some (.string car) ∧ w'.cell? ⟨w.heap.size, 1, none⟩ = some (.int .i64 num) ∧ w'.cell? ⟨w.heap.size, 2, none⟩ = some (.int .i64 day) ∧ w'.cell? ⟨p, 0, none⟩ = some (.pointer (some ⟨t, 0, none⟩))) (first | exact HS.out _ (Below.refl _ _) | exact HS.out _ (Below.refl _ _).drew | exact HS.out _ ((Below.refl _ _).drew.trans hb2)) (first
          | (go_at_call 43; refine (HLv.out _ HB1.out.drew).mono ?_; rintro e w2 ⟨rfl, hb2⟩))
        obtain ⟨k0, k1, k2, k3⟩ := HS.out _ ((Below.refl _ _).drew.trans hb2)
        have HB2 := Lib.hid (HB1.out.drew.trans (hb2.mono HB1.out.size))
        go_wp2_with (first
          | (go_at_call 18; refine (HSo.out _ HB2.out).mono ?_; rintro e w3 ⟨rfl, hb3⟩; have HB3 := Lib.hid (HB2.out.trans (hb3.mono HB2.out.size)); obtain ⟨j0, j1, j2, j3⟩ := HS.out _ (((Below.refl _ _).drew.trans hb2).trans (hb3.mono hb2.size)))
          | (go_at_call 44; refine (HPu.out (so - n) (by omega) (by omega) _ HB3.out).mono ?_; rintro e w4 ⟨rfl, hP⟩))
        go_ret
        exact ⟨by (have e := HC2.out; subst e; rfl), by rw [HA2.out]; exact hP.low HB3.out⟩
    · have HC2 : Hid (cd = er) := show _ = _ by rw [HC.out]; unfold St.cancelE'; simp [*]
      have HA2 : Hid (af = so) := show _ = _ by rw [HA.out, if_neg (by rw [← HC.out, HC2.out]; exact he)]
      have hne : (er == 0) = false := by simp [he]
      have hne2 : (er != 0) = true := by simp [he]
      clear HC HA he hle2
      go_enter Tryz.func20, Tryz.ntmps20
      go_wp2_with (first
        | (go_at_call 42; refine (isParty_any _ _).mono ?_; rintro e w' ⟨rfl, rfl⟩))
      rw [← ew1]
      clear ew1
      go_region_held3 (fun w' => w'.cell? ⟨w.heap.size, 0, none⟩ = some (.string car) ∧ w'.cell? ⟨w.heap.size, 1, none⟩ = some (.int .i64 num) ∧ w'.cell? ⟨w.heap.size, 2, none⟩ = some (.int .i64 day) ∧ w'.cell? ⟨p, 0, none⟩ = some (.pointer (some ⟨t, 0, none⟩))) (first | exact HS.out _ (Below.refl _ _) | exact HS.out _ (Below.refl _ _).drew | exact HS.out _ ((Below.refl _ _).drew.trans hb2)) (first
        | (go_at_call 43; refine (HLv.out _ HB1.out.drew).mono ?_; rintro e w2 ⟨rfl, hb2⟩))
      obtain ⟨k0, k1, k2, k3⟩ := HS.out _ ((Below.refl _ _).drew.trans hb2)
      have HB2 := Lib.hid (HB1.out.drew.trans (hb2.mono HB1.out.size))
      go_wp2
      go_ret
      exact ⟨by (have e := HC2.out; subst e; rfl), by rw [HA2.out]; exact HNo.out _ HB2.out⟩
end Go.Proofs.YtmcekicaigbccaaGreat
