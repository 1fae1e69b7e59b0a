/- Contracts of the table's Flies and Find. -/
import Derived.Test.YtfodabbmjggieaaGreatG2
namespace Go.Proofs.YtfodabbmjggieaaGreat
open Go.RowKit Go.WideMaps
set_option linter.unusedVariables false

namespace Fl
theorem flies_at {rs : List R} {car : ByteArray} {num day : Int} {j : Nat} (hn : (ks rs).Nodup) (hj : j < rs.length) (h1 : isK rs[j].f car num = true) : flies (rs.map R.f) car num day = on rs[j].f day := by
  refine flies_first hj h1 (fun i hi hi2 => ?_)
  cases he : isK rs[i].f car num with
  | false => rfl
  | true => have := tab_uniq hn hi2 hj he h1; omega
/-- What Find tells. -/
def FdIs (w : World) (rs : List R) (car : ByteArray) (num : Int) (e : Ending) (w' : World) : Prop :=
  (∃ (r : R) (b : Bool), e = .returned (.tuple #[fv r, .bool b]) ∧ ((b = true ∧ ∃ (j : Nat) (hj : j < rs.length), isK rs[j].f car num = true ∧ r.f = rs[j].f) ∨ (b = false ∧ ∀ r ∈ rs, isK r.f car num = false))) ∧ Below w.heap.size w w'
theorem wf0 : Wf r0 := by
  constructor <;> first | decide | (intro h; rfl) | (intro a h; cases h)
end Fl
set_option maxHeartbeats 1000000 in
set_option maxRecDepth 20000 in
theorem tflies_any (base p : Nat) (rs : List Fl.R) (car : ByteArray) (num day : Int) (w : World) (h : Fl.Tab w base p rs) (hs : car.size ≤ 9223372036854775807) (h0 : -9223372036854775808 ≤ num) (h1 : num ≤ 9223372036854775807) (hl : rs.length ≤ 1000000) :
    Calls Tryz.prog 49 #[.pointer (some ⟨p, 0, none⟩), .agg #[.string car, .int .i64 num, .int .i64 day]] w fun e w' => e = .returned (.bool (Fl.flies (rs.map Fl.R.f) car num day)) ∧ Below w.heap.size w w' := by
  obtain ⟨w1, ew1⟩ : ∃ x, x = w.alloc (.cells #[.string car, .int .i64 num, .int .i64 day] 35) := ⟨_, rfl⟩
  have hb1 : Below w.heap.size w w1 := by rw [ew1]; exact (Below.refl _ _).alloc (Nat.le_refl _) _
  have hz1 : w.heap.size < w1.heap.size := by rw [ew1]; simp
  have K1 : Rw.Blk w1 w.heap.size 35 [.string car, .int .i64 num, .int .i64 day] := by rw [ew1]; exact heap_alloc_new w _
  have HB1 := Lib.hid hb1
  have HK1 := Lib.hid K1
  by_cases hex : ∃ r ∈ rs, Fl.isK r.f car num = true
  · obtain ⟨r, hr, hi⟩ := hex
    obtain ⟨j, hj, rfl⟩ := List.getElem_of_mem hr
    have HFd := Lib.hid (find_yes base p rs car num w1 (h.kept hb1) hs h0 h1 hl j hj hi)
    have HL := Lib.hid (Fl.flies_at (day := day) h.nod hj hi)
    have HW := Lib.hid (h.wf _ hr)
    generalize Fl.flies (rs.map Fl.R.f) car num day = res at *
    generalize rs[j] = r at *
    clear hr hi h hs h0 h1 hl hb1 K1 hj
    have HFl := Lib.hid (fun w => flies_any r day w HW.out)
    rw [← HL.out] at HFl
    rw [ew1] at HFd HB1 HK1 hz1
    go_enter Tryz.func49, Tryz.ntmps49
    go_wp2_with (first
      | (go_at_call 77; refine HFd.out.mono ?_; rintro e w2 ⟨rfl, hb2⟩; have hlt2 : w.heap.size < w2.heap.size := Nat.lt_of_lt_of_le hz1 hb2.size; have HB2 := Lib.hid (HB1.out.trans (hb2.mono HB1.out.size)); have k1 : w2.cell? ⟨w.heap.size, 2, none⟩ = some (.int .i64 day) := (hb2.cell (p := ⟨w.heap.size, 2, none⟩) hz1).trans (HK1.out.cell 2))
      | (refine Rw.wpList_alloc rfl 70 rfl (Fl.enc Fl.r0) Fl.zF ?_; intro w3 K3 hb3 hz3; clear hz3)
      | (refine Rw.wpList_store_whole rfl 70 _ _ rfl w2.heap.size rfl (Fl.enc r) rfl _ _ K3 Fl.iF rfl (Fl.enc_one _) ?_; intro w4 K4 f4; obtain ⟨c0, c1, c2, c3, c4, c5, c6, c7, c8⟩ := Fl.encs K4; have hb24 : Below w2.heap.size w2 w4 := hb3.trans (f4.below hb3.size (fun k hk => by have : k = w2.heap.size := hk; omega)); have k2 : w4.cell? ⟨w.heap.size, 2, none⟩ = some (.int .i64 day) := (hb24.cell (p := ⟨w.heap.size, 2, none⟩) hlt2).trans k1; have HB4 := Lib.hid (HB2.out.trans (hb24.mono HB2.out.size)))
      | (go_at_call 78; refine (HFl.out _).mono ?_; rintro e w5 ⟨rfl, hb5⟩))
    go_ret
    exact ⟨rfl, HB4.out.trans (hb5.mono HB4.out.size)⟩
  · have hno : ∀ r ∈ rs, Fl.isK r.f car num = false := fun r hr => by
      cases hc : Fl.isK r.f car num with
      | false => rfl
      | true => exact absurd ⟨r, hr, hc⟩ hex
    have HFd := Lib.hid (find_no base p rs car num w1 (h.kept hb1) hs h0 h1 hl hno)
    have HL2 := Lib.hid (Fl.flies_non (day := day) hno)
    generalize Fl.flies (rs.map Fl.R.f) car num day = res at *
    clear h hs h0 h1 hl hb1 K1 hno hex
    rw [ew1] at HFd HB1 HK1 hz1
    generalize Fl.r0 = r at HFd
    go_enter Tryz.func49, Tryz.ntmps49
    go_wp2_with (first
        | (go_at_call 77; refine HFd.out.mono ?_; rintro e w2 ⟨rfl, hb2⟩; have hlt2 : w.heap.size < w2.heap.size := Nat.lt_of_lt_of_le hz1 hb2.size; have HB2 := Lib.hid (HB1.out.trans (hb2.mono HB1.out.size)); have k1 : w2.cell? ⟨w.heap.size, 2, none⟩ = some (.int .i64 day) := (hb2.cell (p := ⟨w.heap.size, 2, none⟩) hz1).trans (HK1.out.cell 2))
        | (refine Rw.wpList_alloc rfl 70 rfl (Fl.enc Fl.r0) Fl.zF ?_; intro w3 K3 hb3 hz3; clear hz3)
        | (refine Rw.wpList_store_whole rfl 70 _ _ rfl w2.heap.size rfl (Fl.enc r) rfl _ _ K3 Fl.iF rfl (Fl.enc_one _) ?_; intro w4 K4 f4; obtain ⟨c0, c1, c2, c3, c4, c5, c6, c7, c8⟩ := Fl.encs K4; have hb24 : Below w2.heap.size w2 w4 := hb3.trans (f4.below hb3.size (fun k hk => by have : k = w2.heap.size := hk; omega)); have k2 : w4.cell? ⟨w.heap.size, 2, none⟩ = some (.int .i64 day) := (hb24.cell (p := ⟨w.heap.size, 2, none⟩) hlt2).trans k1; have HB4 := Lib.hid (HB2.out.trans (hb24.mono HB2.out.size))))
    go_ret
    exact ⟨by (have e := HL2.out; subst e; rfl), HB4.out⟩
set_option maxHeartbeats 1000000 in
set_option maxRecDepth 20000 in
/-- Find of a flight r that find tells, or of none. -/
theorem tfind_of (p : Nat) (car : ByteArray) (num : Int) (r : Fl.R) (b : Bool) (B : Nat) (w : World) (hB : B ≤ w.heap.size)
    (HFd : ∀ W, Below w.heap.size w W → Calls Tryz.prog 77 #[.pointer (some ⟨p, 0, none⟩), .agg #[.string car, .int .i64 num]] W fun e w' => e = .returned (.tuple #[Fl.fv r, .bool b]) ∧ Below W.heap.size W w')
    (HW : Fl.Wf r) (HC : Fl.Cls w B r.A r.f.cls) (hl : r.f.cls.length ≤ 3000) (hp : 0 < r.f.cls.length ∨ r.A = none) :
    Calls Tryz.prog 54 #[.pointer (some ⟨p, 0, none⟩), .agg #[.string car, .int .i64 num]] w fun e w' => (∃ r' : Fl.R, e = .returned (.tuple #[Fl.fv r', .bool b]) ∧ r'.f = r.f) ∧ Below w.heap.size w w' := by
  have HF := Lib.hid HFd
  have HAl := Lib.hid (fun W (hb : Below w.heap.size w W) => alone_any r B W HW (HC.below hb hB) (Nat.le_trans hB hb.size) hl hp)
  clear HFd HW HC hl hp
  go_enter Tryz.func54, Tryz.ntmps54
  go_wp2_with (first
    | (refine Rw.wpList_box rfl 33 _ rfl [.string car, .int .i64 num] rfl ?_; intro w1 K1 b1 z1; have HZ1 := Lib.hid z1; clear z1)
    | (have hgd := HK7; refine Rw.wpList_store_whole rfl 70 _ _ rfl w1.heap.size rfl (Fl.enc ⟨r.f, A6, c6⟩) rfl _ _ HK7.out Fl.iF rfl (Fl.enc_one _) ?_; intro w7 K7 f7)
    | (have hgd := HB3; refine Rw.wpList_alloc rfl 70 rfl (Fl.enc Fl.r0) Fl.zF ?_; intro w4 K4 b4 z4; have HZ4 := Lib.hid z4; clear z4; have HB4 := Lib.hid (HB3.out.trans (b4.mono HB3.out.size)); have HK24 := Lib.hid (HK23.out.below' b4))
    | (refine Rw.wpList_alloc rfl 70 rfl (Fl.enc Fl.r0) Fl.zF ?_; intro w2 K2 b2 z2; have HZ2 := Lib.hid z2; clear z2; have k0 : w2.cell? ⟨w.heap.size, 0, none⟩ = some (.string car) := ((K1.below' b2).cell 0).trans rfl; have k1 : w2.cell? ⟨w.heap.size, 1, none⟩ = some (.int .i64 num) := ((K1.below' b2).cell 1).trans rfl; have HB2 := Lib.hid (b1.trans (b2.mono b1.size)); have HK2 := Lib.hid K2; have HF2 := Lib.hid (HF.out w2 HB2.out); clear K2)
    | (go_at_call 77; refine HF2.out.mono ?_; rintro e w3 ⟨rfl, hb3⟩; have HB3 := Lib.hid (HB2.out.trans (hb3.mono HB2.out.size)); have HK23 := Lib.hid (HK2.out.below' hb3); clear k0 k1 HF2 hb3)
    | (refine Rw.wpList_store_whole rfl 70 _ _ rfl w3.heap.size rfl (Fl.enc r) rfl _ _ K4 Fl.iF rfl (Fl.enc_one _) ?_; intro w5 K5 f5; have HB5 := Lib.hid (HB4.out.trans (f5.below (B := w.heap.size) HB4.out.size (fun k hk => by have : k = w3.heap.size := hk; have := HB3.out.size; omega))); have HK25 := Lib.hid (HK24.out.kept (f5.block _ HK24.out.lt (show ¬ (w1.heap.size = w3.heap.size) by have := HK23.out.lt; omega))); have HA5 := Lib.hid (HAl.out w5 HB5.out))
    | (refine wpList_load_mid rfl 70 _ rfl w3.heap.size 0 rfl (Fl.enc r) _ K5.range Fl.uF Fl.rF Fl.iF ?_)
    | (go_at_call 74; refine HA5.out.mono ?_; rintro e w6 ⟨A6, c6, rfl, _, _, _, _, hb6⟩; have HB6 := Lib.hid (HB5.out.trans (hb6.mono HB5.out.size)); have HK7 := Lib.hid (HK25.out.below' hb6)))
  have hc7 := K7.cell
  have hb7 : Below w.heap.size w w7 := HB6.out.trans (f7.below (B := w.heap.size) HB6.out.size (fun k hk => by have : k = w1.heap.size := hk; have := HZ1.out; omega))
  refine bodyPost_ret (v := .tuple #[Fl.fv ⟨r.f, A6, c6⟩, .bool b]) ?_ rfl ⟨⟨⟨r.f, A6, c6⟩, rfl, rfl⟩, hb7⟩
  simp [results, Tryz.results54, go_sem, hc7, Fl.enc, Fl.fv]
theorem tfind_any (base p : Nat) (rs : List Fl.R) (car : ByteArray) (num : Int) (w : World) (h : Fl.Tab w base p rs) (hs : car.size ≤ 9223372036854775807) (h0 : -9223372036854775808 ≤ num) (h1 : num ≤ 9223372036854775807) (hl : rs.length ≤ 1000000) (hr : ∀ r ∈ rs, Fl.right r.f = true) :
    Calls Tryz.prog 54 #[.pointer (some ⟨p, 0, none⟩), .agg #[.string car, .int .i64 num]] w (Fl.FdIs w rs car num) := by
  by_cases hex : ∃ r ∈ rs, Fl.isK r.f car num = true
  · obtain ⟨r, hrm, hi⟩ := hex
    obtain ⟨j, hj, rfl⟩ := List.getElem_of_mem hrm
    have hc : 0 < rs[j].f.cls.length ∧ rs[j].f.cls.length ≤ 3000 := by
      have := hr _ hrm
      unfold Fl.right Fl.clsOk at this
      simp only [Bool.and_eq_true, decide_eq_true_eq] at this
      omega
    refine (tfind_of p car num rs[j] true w.heap.size w (Nat.le_refl _) (fun W hb => find_yes base p rs car num W (h.kept hb) hs h0 h1 hl j hj hi) (h.wf _ hrm) (h.cls _ hrm) hc.2 (.inl hc.1)).mono ?_
    rintro e w' ⟨⟨r', he, hf⟩, hb⟩
    exact ⟨⟨r', true, he, .inl ⟨rfl, j, hj, hi, hf⟩⟩, hb⟩
  · have hno : ∀ r ∈ rs, Fl.isK r.f car num = false := fun r hr => by
      cases hc : Fl.isK r.f car num with
      | false => rfl
      | true => exact absurd ⟨r, hr, hc⟩ hex
    refine (tfind_of p car num Fl.r0 false w.heap.size w (Nat.le_refl _) (fun W hb => find_no base p rs car num W (h.kept hb) hs h0 h1 hl hno) Fl.wf0 (fun hh => absurd hh (by decide)) (by decide) (.inr rfl)).mono ?_
    rintro e w' ⟨⟨r', he, hf⟩, hb⟩
    exact ⟨⟨r', false, he, .inr ⟨rfl, hno⟩⟩, hb⟩
end Go.Proofs.YtfodabbmjggieaaGreat
