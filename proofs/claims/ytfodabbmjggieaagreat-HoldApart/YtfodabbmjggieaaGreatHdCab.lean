/- Contracts: cabin, check, Has. -/
import Derived.Test.YtfodabbmjggieaaGreatHdTab
import Derived.Test.YtfodabbmjggieaaGreatHdMem
import Derived.Deep.RegionHeld3
namespace Go.Proofs.YtfodabbmjggieaaGreat
open Go.RowKit Go.WideMaps
set_option linter.unusedVariables false

namespace Hd
theorem ret_ptr {a b : Option Addr} (h : a = b) : Ending.returned (.pointer a) = .returned (.pointer b) := by rw [h]
theorem find_at {rs : List Fl.R} {car : ByteArray} {num : Int} {j : Nat} (hn : (Fl.ks rs).Nodup) (hj : j < rs.length) (h1 : Fl.isK rs[j].f car num = true) : (rs.map Fl.R.f).find? (fun f => Fl.isK f car num) = some rs[j].f := by
  rw [Fl.find_at (fs := rs.map Fl.R.f) (j := j) (by simpa using hj) (by simpa using h1) (fun i hi hi2 => ?_)]
  · simp
  · cases he : Fl.isK (rs.map Fl.R.f)[i] car num with
    | false => rfl
    | true =>
      have hi3 : i < rs.length := by omega
      have := Fl.tab_uniq hn hi3 hj (by simpa using he) h1
      omega
theorem cab_at {rs : List Fl.R} {n : Nat} {car : ByteArray} {num : Int} {j : Nat} {f : Fl.F} (hn : (Fl.ks rs).Nodup) (hj : j < rs.length) (h1 : Fl.isK rs[j].f car num = true) (hf : f = rs[j].f) : cab (rs.map Fl.R.f) n car num = if 0 ≤ f.plan ∧ f.plan < n then some f.plan.toNat else none := by
  unfold cab
  rw [find_at hn hj h1, hf]
theorem cab_non {rs : List Fl.R} {n : Nat} {car : ByteArray} {num : Int} (h : ∀ r ∈ rs, Fl.isK r.f car num = false) : cab (rs.map Fl.R.f) n car num = none := by
  unfold cab
  rw [Fl.find_non (fun f hf => by obtain ⟨r, hr, rfl⟩ := List.mem_map.1 hf; exact h r hr)]
/-- The pointer to a leg's map. -/
def cabP (fs : List Fl.F) (gs : List (Nat × Pl.P)) (car : ByteArray) (num : Int) : Option Addr := match cab fs gs.length car num with
  | some i => match gs[i]? with
    | some g => some ⟨g.1, 0, none⟩
    | none => none
  | none => none
theorem cabP_some {fs : List Fl.F} {gs : List (Nat × Pl.P)} {car : ByteArray} {num : Int} {i : Nat} (h : cab fs gs.length car num = some i) : ∃ hi : i < gs.length, cabP fs gs car num = some ⟨gs[i].1, 0, none⟩ := by
  have hi := cab_lt h
  exact ⟨hi, by unfold cabP; rw [h]; simp [hi]⟩
theorem cabP_none {fs : List Fl.F} {gs : List (Nat × Pl.P)} {car : ByteArray} {num : Int} (h : cab fs gs.length car num = none) : cabP fs gs car num = none := by
  unfold cabP; rw [h]
end Hd
set_option maxHeartbeats 1000000 in
set_option maxRecDepth 20000 in
theorem cabin_any (Bt p t m : Nat) (A : Option Addr) (cap : Nat) (rs : List Fl.R) (gs : List (Nat × Pl.P)) (l : List (Hd.K × Hd.H)) (x : Hd.L) (w : World) (h : Hd.At w Bt p t m A cap rs gs l) (hx : Hd.OkL x) :
    Calls Tryz.prog 34 #[.pointer (some ⟨p, 0, none⟩), .agg #[.string x.car, .int .i64 x.num, .int .i64 x.day]] w fun e w' => e = .returned (.pointer (Hd.cabP (rs.map Fl.R.f) gs x.car x.num)) ∧ Below w.heap.size w w' := by
  have HFi := Lib.hid (fun W (hb : Below w.heap.size w W) => by
    obtain ⟨base, hT⟩ := (h.kept hb).env.env.tab
    exact tfind_any base t rs x.car x.num W hT hx.car hx.n0 hx.n1 (by have := h.few; omega) h.right)
  have HN : Hid ((Fl.ks rs).Nodup) := by
    obtain ⟨base, hT⟩ := h.env.env.tab
    exact hT.nod
  have hpl := h.blk.lt
  have HAt := Lib.hid h
  have HP := Lib.hid h.blk
  have hg8 := h.pfew
  clear h hx
  obtain ⟨car, num, day⟩ := x
  simp only at HFi ⊢
  obtain ⟨w1, ew1⟩ : ∃ y, y = w.alloc (.cells #[.string car, .int .i64 num, .int .i64 day] 35) := ⟨_, rfl⟩
  have hb1 : Below w.heap.size w w1 := by rw [ew1]; exact (Below.refl _ _).alloc (Nat.le_refl _) _
  have hz1 : w.heap.size < w1.heap.size := by rw [ew1]; simp
  have K1 : Rw.Blk w1 w.heap.size 35 [.string car, .int .i64 num, .int .i64 day] := by rw [ew1]; exact heap_alloc_new w _
  have HS : Hid (∀ w', Below w1.heap.size w1 w' → w'.cell? ⟨w.heap.size, 0, none⟩ = some (.string car) ∧ w'.cell? ⟨w.heap.size, 1, none⟩ = some (.int .i64 num) ∧ w'.cell? ⟨p, 0, none⟩ = some (.pointer (some ⟨t, 0, none⟩)) ∧ w'.cell? ⟨p, 1, none⟩ = some (.slice A gs.length cap) ∧ Hid (Below w1.heap.size w1 w')) := fun w' hb => by
    have k1 := K1.below' hb
    have k2 := (HP.out.below' hb1).below' hb
    exact ⟨k1.cell 0, k1.cell 1, k2.cell 0, k2.cell 1, hb⟩
  have HB1 := Lib.hid hb1
  clear K1 hb1
  go_enter Tryz.func34, Tryz.ntmps34
  go_wp2
  rw [← ew1]
  clear ew1
  go_cut [5, 6] from 7 (fun s5 s6 wx => Hid (∃ (g : Nat) (r : Fl.R) (b : Bool), s5 = .pointer (some ⟨g, 0, none⟩) ∧ s6 = .bool b ∧ Rw.Blk wx g 70 (Fl.enc r) ∧ ((b = true ∧ ∃ (j : Nat) (hj : j < rs.length), Fl.isK rs[j].f car num = true ∧ r.f = rs[j].f) ∨ (b = false ∧ ∀ r ∈ rs, Fl.isK r.f car num = false)) ∧ w1.heap.size ≤ g ∧ Below w1.heap.size w1 wx))
  case first =>
    refine wp_region_noPanic ?_
    refine wp_region_held_drew (S := fun w' => w'.cell? ⟨w.heap.size, 0, none⟩ = some (.string car) ∧ w'.cell? ⟨w.heap.size, 1, none⟩ = some (.int .i64 num) ∧ w'.cell? ⟨p, 0, none⟩ = some (.pointer (some ⟨t, 0, none⟩)) ∧ w'.cell? ⟨p, 1, none⟩ = some (.slice A gs.length cap) ∧ Hid (Below w1.heap.size w1 w')) (by kernel_rfl) (HS.out _ (Below.refl _ _).drew) (fun hHeld => ?_)
    refine wpAnyH_take (i := 0) (oi := ⟨(some 8), _, _, _, _, _⟩) (v := ?_) rfl (by kernel_rfl) (by kernel_rfl) (by kernel_rfl) (fun _ _ _ h => h) (Or.inl ⟨by rfl, ?_⟩) (by assumption) ?_
    rotate_left
    · (intro w hSw; (try dsimp only at hSw); go_simp <;> with_reducible rfl)
    try simp only [Act.put]
    try simp only [List.setIfInBounds_toArray]
    try simp only [List.set_cons_succ]
    try simp only [List.set_cons_zero]
    refine wpAnyH_take (i := 1) (oi := ⟨(some 9), _, _, _, _, _⟩) (v := ?_) rfl (by kernel_rfl) (by kernel_rfl) (by kernel_rfl) (fun _ _ _ h => h) (Or.inl ⟨by rfl, ?_⟩) (by assumption) ?_
    rotate_left
    · (intro w hSw; (try dsimp only at hSw); go_simp <;> with_reducible rfl)
    try simp only [Act.put]
    try simp only [List.setIfInBounds_toArray]
    try simp only [List.set_cons_succ]
    try simp only [List.set_cons_zero]
    refine wpAnyH_take (i := 2) (oi := ⟨(some 10), _, _, _, _, _⟩) (v := ?_) rfl (by kernel_rfl) (by kernel_rfl) (by kernel_rfl) (fun _ _ _ h => h) (Or.inl ⟨by rfl, ?_⟩) (by assumption) ?_
    rotate_left
    · (intro w hSw; (try dsimp only at hSw); go_simp <;> with_reducible rfl)
    try simp only [Act.put]
    try simp only [List.setIfInBounds_toArray]
    try simp only [List.set_cons_succ]
    try simp only [List.set_cons_zero]
    refine wpAnyH_take (i := 3) (oi := ⟨(some 11), _, _, _, _, _⟩) (v := ?_) rfl (by kernel_rfl) (by kernel_rfl) (by kernel_rfl) (fun _ _ _ h => h) (Or.inl ⟨by rfl, ?_⟩) (by assumption) ?_
    rotate_left
    · (intro w hSw; (try dsimp only at hSw); go_simp <;> with_reducible rfl)
    try simp only [Act.put]
    try simp only [List.setIfInBounds_toArray]
    try simp only [List.set_cons_succ]
    try simp only [List.set_cons_zero]
    refine wpAnyH_take (i := 4) (oi := ⟨(some 12), _, _, _, _, _⟩) (v := ?_) rfl (by kernel_rfl) (by kernel_rfl) (by kernel_rfl) (fun _ _ _ h => h) (Or.inl ⟨by rfl, ?_⟩) (by assumption) ?_
    rotate_left
    · (intro w hSw; (try dsimp only at hSw); go_simp <;> with_reducible rfl)
    try simp only [Act.put]
    try simp only [List.setIfInBounds_toArray]
    try simp only [List.set_cons_succ]
    try simp only [List.set_cons_zero]
    refine wpAnyH_take (i := 5) (oi := ⟨(some 13), _, _, _, _, _⟩) (v := ?_) rfl (by kernel_rfl) (by kernel_rfl) (by kernel_rfl) (fun _ _ _ h => h) (Or.inl ⟨by rfl, ?_⟩) (by assumption) ?_
    rotate_left
    · (intro w hSw; (try dsimp only at hSw); go_simp <;> with_reducible rfl)
    try simp only [Act.put]
    try simp only [List.setIfInBounds_toArray]
    try simp only [List.set_cons_succ]
    try simp only [List.set_cons_zero]
    refine wpAnyH_ready (rs := [6, 10]) (by kernel_rfl) (by simp) ?_
    refine AllReadyH.cons (o := ⟨(some 14), _, _, _, _, _⟩) rfl (fun K hK => ?_) (AllReadyH.cons (o := ⟨(some 5), _, _, _, _, _⟩) rfl (fun K hK => ?_) (AllReadyH.nil))
    · go_simp
      go_at_call 54
      refine (HFi.out _ (HB1.out.trans (Below.mono ((Below.refl _ _).drew) HB1.out.size))).mono ?_
      rintro e w5 ⟨⟨r, b, rfl, hr⟩, hb5⟩
      go_wp2_with fail
      refine hK.out _ _ ?_ (fun hHeld2 => ?_)
      · exact HS.out _ ((Below.refl _ _).drew.trans hb5)
      clear hK K
      try simp only [Act.put]
      try simp only [List.setIfInBounds_toArray]
      try simp only [List.set_cons_succ]
      try simp only [List.set_cons_zero]
      refine wpAnyH_take (i := 7) (oi := ⟨(some 7), _, _, _, _, _⟩) (v := ?_) rfl (by kernel_rfl) (by kernel_rfl) (by kernel_rfl) (fun _ _ _ h => h) (Or.inl ⟨by rfl, ?_⟩) (by assumption) ?_
      rotate_left
      · (intro w hSw; (try dsimp only at hSw); go_simp <;> with_reducible rfl)
      try simp only [Act.put]
      try simp only [List.setIfInBounds_toArray]
      try simp only [List.set_cons_succ]
      try simp only [List.set_cons_zero]
      refine wpAnyH_take (i := 8) (oi := ⟨(some 15), _, _, _, _, _⟩) (v := ?_) rfl (by kernel_rfl) (by kernel_rfl) (by kernel_rfl) (fun _ _ _ h => h) (Or.inl ⟨by rfl, ?_⟩) (by assumption) ?_
      rotate_left
      · (intro w hSw; (try dsimp only at hSw); go_simp <;> with_reducible rfl)
      try simp only [Act.put]
      try simp only [List.setIfInBounds_toArray]
      try simp only [List.set_cons_succ]
      try simp only [List.set_cons_zero]
      refine wpAnyH_take (i := 9) (oi := ⟨(some 16), _, _, _, _, _⟩) (v := ?_) rfl (by kernel_rfl) (by kernel_rfl) (by kernel_rfl) (fun _ _ _ h => h) (Or.inl ⟨by rfl, ?_⟩) (by assumption) ?_
      rotate_left
      · (intro w hSw; (try dsimp only at hSw); go_simp <;> with_reducible rfl)
      try simp only [Act.put]
      try simp only [List.setIfInBounds_toArray]
      try simp only [List.set_cons_succ]
      try simp only [List.set_cons_zero]
      refine wpAnyH_ready (rs := [10]) (by kernel_rfl) (by simp) ?_
      refine AllReadyH.cons (o := ⟨(some 5), _, _, _, _, _⟩) rfl (fun K hK => ?_) (AllReadyH.nil)
      refine Rw.wp_alloc 70 rfl (Fl.enc Fl.r0) Fl.zF ?_
      intro w6 K6 b6 z6
      have b6a : Below w1.heap.size w1 w6 := ((Below.refl _ _).drew.trans hb5).trans (b6.mono hb5.size)
      refine hK.out _ _ ?_ (fun hHeld2 => ?_)
      · exact HS.out _ (b6a)
      clear hK K
      try simp only [Act.put]
      try simp only [List.setIfInBounds_toArray]
      try simp only [List.set_cons_succ]
      try simp only [List.set_cons_zero]
      refine wpAnyH_ready (rs := [11]) (by kernel_rfl) (by simp) ?_
      refine AllReadyH.cons (o := ⟨none, _, _, _, _, _⟩) rfl (fun K hK => ?_) (AllReadyH.nil)
      refine Rw.wp_store_whole 70 (.tmp 5) (.tmp 15) rfl w5.heap.size rfl (Fl.enc r) rfl _ _ K6 Fl.iF rfl (Fl.enc_one _) ?_
      intro w7 K7 f7
      have b7 : Below w1.heap.size w1 w7 := b6a.trans (f7.below b6a.size (fun k hk => by have h1 : k = w5.heap.size := hk; have h2 := hb5.size; exact h1 ▸ h2))
      refine hK.out _ _ ?_ (fun hHeld2 => ?_)
      · exact HS.out _ (b7)
      clear hK K
      try simp only [Act.put]
      try simp only [List.setIfInBounds_toArray]
      try simp only [List.set_cons_succ]
      try simp only [List.set_cons_zero]
      refine wpAnyH_take (i := 12) (oi := ⟨(some 6), _, _, _, _, _⟩) (v := ?_) rfl (by kernel_rfl) (by kernel_rfl) (by kernel_rfl) (fun _ _ _ h => h) (Or.inl ⟨by rfl, ?_⟩) (by assumption) ?_
      rotate_left
      · (intro w hSw; (try dsimp only at hSw); go_simp <;> with_reducible rfl)
      try simp only [Act.put]
      try simp only [List.setIfInBounds_toArray]
      try simp only [List.set_cons_succ]
      try simp only [List.set_cons_zero]
      refine wpAnyH_done (by kernel_rfl) ?_ _
      refine NoPanic.normal ?_
      go_wp2
      go_meet
      exact ⟨_, r, b, rfl, rfl, K7, hr, hb5.size, b7⟩
    · refine Rw.wp_alloc 70 rfl (Fl.enc Fl.r0) Fl.zF ?_
      intro w6 K6 b6 z6
      have b6a : Below w1.heap.size w1 w6 := (Below.refl _ _).drew.trans b6
      refine hK.out _ _ ?_ (fun hHeld2 => ?_)
      · exact HS.out _ (b6a)
      clear hK K
      try simp only [Act.put]
      try simp only [List.setIfInBounds_toArray]
      try simp only [List.set_cons_succ]
      try simp only [List.set_cons_zero]
      refine wpAnyH_ready (rs := [6]) (by kernel_rfl) (by simp) ?_
      refine AllReadyH.cons (o := ⟨(some 14), _, _, _, _, _⟩) rfl (fun K hK => ?_) (AllReadyH.nil)
      go_simp
      go_at_call 54
      refine (HFi.out _ (HB1.out.trans (Below.mono (b6a) HB1.out.size))).mono ?_
      rintro e w5 ⟨⟨r, b, rfl, hr⟩, hb5⟩
      go_wp2_with fail
      have K6b := K6.below' hb5
      have b5a : Below w1.heap.size w1 w5 := b6a.trans (hb5.mono b6a.size)
      refine hK.out _ _ ?_ (fun hHeld2 => ?_)
      · exact HS.out _ (b5a)
      clear hK K
      try simp only [Act.put]
      try simp only [List.setIfInBounds_toArray]
      try simp only [List.set_cons_succ]
      try simp only [List.set_cons_zero]
      refine wpAnyH_take (i := 7) (oi := ⟨(some 7), _, _, _, _, _⟩) (v := ?_) rfl (by kernel_rfl) (by kernel_rfl) (by kernel_rfl) (fun _ _ _ h => h) (Or.inl ⟨by rfl, ?_⟩) (by assumption) ?_
      rotate_left
      · (intro w hSw; (try dsimp only at hSw); go_simp <;> with_reducible rfl)
      try simp only [Act.put]
      try simp only [List.setIfInBounds_toArray]
      try simp only [List.set_cons_succ]
      try simp only [List.set_cons_zero]
      refine wpAnyH_take (i := 8) (oi := ⟨(some 15), _, _, _, _, _⟩) (v := ?_) rfl (by kernel_rfl) (by kernel_rfl) (by kernel_rfl) (fun _ _ _ h => h) (Or.inl ⟨by rfl, ?_⟩) (by assumption) ?_
      rotate_left
      · (intro w hSw; (try dsimp only at hSw); go_simp <;> with_reducible rfl)
      try simp only [Act.put]
      try simp only [List.setIfInBounds_toArray]
      try simp only [List.set_cons_succ]
      try simp only [List.set_cons_zero]
      refine wpAnyH_take (i := 9) (oi := ⟨(some 16), _, _, _, _, _⟩) (v := ?_) rfl (by kernel_rfl) (by kernel_rfl) (by kernel_rfl) (fun _ _ _ h => h) (Or.inl ⟨by rfl, ?_⟩) (by assumption) ?_
      rotate_left
      · (intro w hSw; (try dsimp only at hSw); go_simp <;> with_reducible rfl)
      try simp only [Act.put]
      try simp only [List.setIfInBounds_toArray]
      try simp only [List.set_cons_succ]
      try simp only [List.set_cons_zero]
      refine wpAnyH_ready (rs := [11]) (by kernel_rfl) (by simp) ?_
      refine AllReadyH.cons (o := ⟨none, _, _, _, _, _⟩) rfl (fun K hK => ?_) (AllReadyH.nil)
      refine Rw.wp_store_whole 70 (.tmp 5) (.tmp 15) rfl w1.heap.size rfl (Fl.enc r) rfl _ _ K6b Fl.iF rfl (Fl.enc_one _) ?_
      intro w7 K7 f7
      have b7 : Below w1.heap.size w1 w7 := b5a.trans (f7.below b5a.size (fun k hk => by have h1 : k = w1.heap.size := hk; omega))
      refine hK.out _ _ ?_ (fun hHeld2 => ?_)
      · exact HS.out _ (b7)
      clear hK K
      try simp only [Act.put]
      try simp only [List.setIfInBounds_toArray]
      try simp only [List.set_cons_succ]
      try simp only [List.set_cons_zero]
      refine wpAnyH_take (i := 12) (oi := ⟨(some 6), _, _, _, _, _⟩) (v := ?_) rfl (by kernel_rfl) (by kernel_rfl) (by kernel_rfl) (fun _ _ _ h => h) (Or.inl ⟨by rfl, ?_⟩) (by assumption) ?_
      rotate_left
      · (intro w hSw; (try dsimp only at hSw); go_simp <;> with_reducible rfl)
      try simp only [Act.put]
      try simp only [List.setIfInBounds_toArray]
      try simp only [List.set_cons_succ]
      try simp only [List.set_cons_zero]
      refine wpAnyH_done (by kernel_rfl) ?_ _
      refine NoPanic.normal ?_
      go_wp2
      go_meet
      exact ⟨_, r, b, rfl, rfl, K7, hr, Nat.le_refl _, b7⟩
  case rest =>
    obtain ⟨wb, ewb⟩ : ∃ wb, wb = wc := ⟨_, rfl⟩
    subst ewb
    obtain ⟨g, r, b, rfl, rfl, hK, hr, hg, hb⟩ := hcut.out
    obtain ⟨k0, k1, k2, k3, _⟩ := HS.out _ hb
    have HB := Lib.hid (HB1.out.trans (hb.mono HB1.out.size))
    have hwb : w.heap.size ≤ wb.heap.size := HB.out.size
    have hgl := hK.lt
    have HKg := Lib.hid hK
    have qg : ∀ q, (wb.drewN q).cell? ⟨g, 8, none⟩ = some (.int .i64 r.f.plan) := fun q => (hK.cell 8).trans rfl
    have qp : ∀ q, (wb.drewN q).cell? ⟨p, 1, none⟩ = some (.slice A gs.length cap) := fun q => k3
    clear hcut hK k0 k1 k2 k3 hb
    cases b with
    | false =>
      have HX : Hid (Hd.cabP (rs.map Fl.R.f) gs car num = none) := by
        rcases hr with ⟨h, _⟩ | ⟨_, hno⟩
        · cases h
        · exact Hd.cabP_none (Hd.cab_non hno)
      clear hr
      go_wp2
      go_quiet (fail)
      go_wp2
      go_ret
      exact ⟨Hd.ret_ptr HX.out.symm, HB.out.trans ((Fl.below_drewN (Below.refl _ _) _).mono hwb)⟩
    | true =>
      have HC : Hid (Hd.cab (rs.map Fl.R.f) gs.length car num = if 0 ≤ r.f.plan ∧ r.f.plan < gs.length then some r.f.plan.toNat else none) := by
        rcases hr with ⟨_, j, hj, hi, hf⟩ | ⟨h, _⟩
        · exact Hd.cab_at HN.out hj hi hf
        · cases h
      clear hr
      generalize r.f.plan = pl at *
      by_cases h0 : pl < 0
      · have HX : Hid (Hd.cabP (rs.map Fl.R.f) gs car num = none) := Hd.cabP_none (by rw [HC.out, if_neg (by omega)])
        have hd0 : decide (pl < 0) = true := decide_eq_true h0
        clear HC
        go_wp2
        go_quiet (fail)
        go_wp2
        go_ret
        exact ⟨Hd.ret_ptr HX.out.symm, HB.out.trans ((Fl.below_drewN (Below.refl _ _) _).mono hwb)⟩
      · by_cases h1 : pl < gs.length
        · have HX : Hid (∃ hi : pl.toNat < gs.length, Hd.cabP (rs.map Fl.R.f) gs car num = some ⟨gs[pl.toNat].1, 0, none⟩) := Hd.cabP_some (by rw [HC.out, if_pos (by omega)])
          obtain ⟨i, rfl⟩ : ∃ i : Nat, pl = i := ⟨pl.toNat, by omega⟩
          have hi : i < gs.length := by omega
          obtain ⟨bA, hA, hbA, hcA⟩ := HAt.out.row.at i hi
          subst hA
          have qa : ∀ q, (wb.drewN q).cell? ⟨bA, i, none⟩ = some (.pointer (some ⟨gs[i].1, 0, none⟩)) := fun q => (HB.out.cell (p := ⟨bA, i, none⟩) hbA).trans hcA
          have HX2 : Hid (Hd.cabP (rs.map Fl.R.f) gs car num = some ⟨gs[i].1, 0, none⟩) := by obtain ⟨_, e⟩ := HX.out; exact Lib.hid (by simpa using e)
          clear HC HX hcA
          generalize gs[i].1 = gi at *
          go_wp2
          go_quiet (fail)
          obtain ⟨wy, ewy⟩ : ∃ y, y = wb.drewN nq := ⟨_, rfl⟩
          have yg : ∀ q, (wy.drewN q).cell? ⟨g, 8, none⟩ = some (.int .i64 i) := by rw [ewy]; exact fun q => qg q
          have yp : ∀ q, (wy.drewN q).cell? ⟨p, 1, none⟩ = some (.slice (some ⟨bA, 0, none⟩) gs.length cap) := by rw [ewy]; exact fun q => qp q
          have ya : ∀ q, (wy.drewN q).cell? ⟨bA, i, none⟩ = some (.pointer (some ⟨gi, 0, none⟩)) := by rw [ewy]; exact fun q => qa q
          have HY : Hid (Below w.heap.size w wy) := by rw [ewy]; exact HB.out.trans ((Fl.below_drewN (Below.refl _ _) _).mono hwb)
          have hwy := HY.out.size
          rw [← ewy]
          clear ewy qg qp qa
          go_wp2
          go_quiet (fail)
          go_wp2
          go_ret
          exact ⟨Hd.ret_ptr HX2.out.symm, HY.out.trans ((Fl.below_drewN (Below.refl _ _) _).mono hwy)⟩
        · have HX : Hid (Hd.cabP (rs.map Fl.R.f) gs car num = none) := Hd.cabP_none (by rw [HC.out, if_neg (by omega)])
          clear HC
          go_wp2
          go_quiet (fail)
          go_wp2
          go_ret
          exact ⟨Hd.ret_ptr HX.out.symm, HB.out.trans ((Fl.below_drewN (Below.refl _ _) _).mono hwb)⟩
end Go.Proofs.YtfodabbmjggieaaGreat
