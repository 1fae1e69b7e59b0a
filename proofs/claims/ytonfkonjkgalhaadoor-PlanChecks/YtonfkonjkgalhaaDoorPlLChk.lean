/- PlanChecks, for every input: any plan is told right or not just as the document says, and has a map just if it is; no conditions. -/
import Derived.Test.YtonfkonjkgalhaaDoorPlRig
import Derived.Test.YtonfkonjkgalhaaDoorPlFrm
namespace Go.Proofs.YtonfkonjkgalhaaDoor
open Go.ChangeShapes Go.WideShapes Go.ChangeAt Go.RowKit
set_option linter.unusedVariables false

set_option maxHeartbeats 2000000 in
set_option maxRecDepth 100000 in
theorem checks_few (w : World) (r : Pl.R) (hp : Pl.PlanIn w r) (hf : Pl.fewP r.p = true) (rq : Bool) (hrq : Pl.right r.p = rq) (m : Option Addr) (cd : Int) (hcd : Pl.code r.p = cd)
    (HNW : Hid (∀ W, Below w.heap.size w W → Calls Tryd.prog 16 #[.agg (Pl.enc r).toArray] W fun e w' => ∃ m' : Option Addr, e = .returned (.tuple #[.pointer m', .int .i64 cd]) ∧ (m'.isSome = rq) ∧ Below W.heap.size W w'))
    (hok : (cd == 0) = rq) (hok4 : rq = false → cd = 4) :
    Calls Tryd.prog 4 #[Pl.pv r] w fun e w' => e = .returned (.bool true) ∧ Below w.heap.size w w' := by
  have HFW := Lib.hid (fun W => few_any r W)
  rw [hf] at HFW
  have HRG := Lib.hid (fun (W : World) (hb : Below w.heap.size w W) => rright_any r w.heap.size W hp.wf (hp.e.below hb (Nat.le_refl _)) (hp.b.below hb (Nat.le_refl _)) hb.size)
  have HC := Lib.hid (fun (W : World) (hb : Below w.heap.size w W) => check_any r w.heap.size W hp.wf (hp.e.below hb (Nat.le_refl _)) (hp.b.below hb (Nat.le_refl _)) hb.size)
  rw [hrq] at HRG
  rw [hcd] at HC
  have HC2 := HC
  have e0 : Pl.pv r = .agg (Pl.enc r).toArray := rfl
  rw [e0] at HFW HRG HC ⊢
  unfold Pl.pv at HC2
  have HOK := Lib.hid hok
  have HOK4 := Lib.hid hok4
  clear e0 hp hf hrq hcd hok4
  cases rq with
  | true =>
    have hcd0 : cd = 0 := by simpa using hok
    subst hcd0
    clear hok HOK HOK4
    go_enter Tryd.func4, Tryd.ntmps4
    go_wp2_with (first
      | (refine Rw.wpList_box rfl 32 _ rfl (Pl.enc r) rfl ?_; intro w1 K1 b1 z1; have HB1 := Lib.hid b1; have HK1 := Lib.hid K1; clear z1)
      | (go_at_call 9; refine (awake_any _).mono ?_; rintro e w2 ⟨rfl, hb2⟩; have HB2 := Lib.hid (HB1.out.trans (hb2.mono HB1.out.size)); have HK2 := Lib.hid (HK1.out.below' hb2); clear hb2)
      | (refine wpList_load_mid rfl 32 _ rfl w.heap.size 0 rfl (Pl.enc r) _ HK5.out.range Pl.uP Pl.rP Pl.iP ?_)
      | (refine wpList_load_mid rfl 32 _ rfl w.heap.size 0 rfl (Pl.enc r) _ HK4.out.range Pl.uP Pl.rP Pl.iP ?_)
      | (refine wpList_load_mid rfl 32 _ rfl w.heap.size 0 rfl (Pl.enc r) _ HK3.out.range Pl.uP Pl.rP Pl.iP ?_)
      | (refine wpList_load_mid rfl 32 _ rfl w.heap.size 0 rfl (Pl.enc r) _ HK2.out.range Pl.uP Pl.rP Pl.iP ?_)
      | (go_at_call 14; refine (HFW.out _).mono ?_; rintro e w3 ⟨rfl, hb3⟩; have HB3 := Lib.hid (HB2.out.trans (hb3.mono HB2.out.size)); have HK3 := Lib.hid (HK2.out.below' hb3); clear hb3)
      | (go_at_call 15; refine (HRG.out w3 HB3.out).mono ?_; rintro e w4 ⟨rfl, hb4⟩; have HB4 := Lib.hid (HB3.out.trans (hb4.mono HB3.out.size)); have HK4 := Lib.hid (HK3.out.below' hb4); clear hb4)
      | (go_at_call 16; refine (HNW.out w4 HB4.out).mono ?_; rintro e w5 ⟨mm, rfl, hsome, hb5⟩; have HB5 := Lib.hid (HB4.out.trans (hb5.mono HB4.out.size)); have HK5 := Lib.hid (HK4.out.below' hb5); obtain ⟨ma, rfl⟩ := Option.isSome_iff_exists.1 hsome; clear hsome; clear hb5)
      | (go_at_call 17; have hgd := HB7; refine (HC2.out w7 HB7.out).mono ?_; rintro e w8 ⟨rfl, hb8⟩; have HB8 := Lib.hid (HB7.out.trans (hb8.mono HB7.out.size)); clear hb8)
      | (go_at_call 17; refine (HC.out w5 HB5.out).mono ?_; rintro e w7 ⟨rfl, hb7⟩; have HB7 := Lib.hid (HB5.out.trans (hb7.mono HB5.out.size)); have HK7 := Lib.hid (HK5.out.below' hb7); have c0 : w7.cell? ⟨w.heap.size, 0, none⟩ = some (.int .i64 r.p.fr) := (HK7.out.cell 0).trans rfl; have c1 : w7.cell? ⟨w.heap.size, 1, none⟩ = some (.int .i64 r.p.la) := (HK7.out.cell 1).trans rfl; have c2 : w7.cell? ⟨w.heap.size, 2, none⟩ = some (.string r.p.lt) := (HK7.out.cell 2).trans rfl; have c3 : w7.cell? ⟨w.heap.size, 3, none⟩ = some (.slice r.eA r.p.ex.length r.ec) := (HK7.out.cell 3).trans rfl; have c4 : w7.cell? ⟨w.heap.size, 4, none⟩ = some (.slice r.bA r.p.bl.length r.bc) := (HK7.out.cell 4).trans rfl; clear hb7))
    go_ret
    exact ⟨rfl, HB8.out⟩
  | false =>
    have hcd4 : cd = 4 := HOK4.out rfl
    subst hcd4
    clear hok HOK HOK4
    go_enter Tryd.func4, Tryd.ntmps4
    go_wp2_with (first
      | (refine Rw.wpList_box rfl 32 _ rfl (Pl.enc r) rfl ?_; intro w1 K1 b1 z1; have HB1 := Lib.hid b1; have HK1 := Lib.hid K1; clear z1)
      | (go_at_call 9; refine (awake_any _).mono ?_; rintro e w2 ⟨rfl, hb2⟩; have HB2 := Lib.hid (HB1.out.trans (hb2.mono HB1.out.size)); have HK2 := Lib.hid (HK1.out.below' hb2); clear hb2)
      | (refine wpList_load_mid rfl 32 _ rfl w.heap.size 0 rfl (Pl.enc r) _ HK5.out.range Pl.uP Pl.rP Pl.iP ?_)
      | (refine wpList_load_mid rfl 32 _ rfl w.heap.size 0 rfl (Pl.enc r) _ HK4.out.range Pl.uP Pl.rP Pl.iP ?_)
      | (refine wpList_load_mid rfl 32 _ rfl w.heap.size 0 rfl (Pl.enc r) _ HK3.out.range Pl.uP Pl.rP Pl.iP ?_)
      | (refine wpList_load_mid rfl 32 _ rfl w.heap.size 0 rfl (Pl.enc r) _ HK2.out.range Pl.uP Pl.rP Pl.iP ?_)
      | (go_at_call 14; refine (HFW.out _).mono ?_; rintro e w3 ⟨rfl, hb3⟩; have HB3 := Lib.hid (HB2.out.trans (hb3.mono HB2.out.size)); have HK3 := Lib.hid (HK2.out.below' hb3); clear hb3)
      | (go_at_call 15; refine (HRG.out w3 HB3.out).mono ?_; rintro e w4 ⟨rfl, hb4⟩; have HB4 := Lib.hid (HB3.out.trans (hb4.mono HB3.out.size)); have HK4 := Lib.hid (HK3.out.below' hb4); clear hb4)
      | (go_at_call 16; refine (HNW.out w4 HB4.out).mono ?_; rintro e w5 ⟨mm, rfl, hsome, hb5⟩; have HB5 := Lib.hid (HB4.out.trans (hb5.mono HB4.out.size)); have HK5 := Lib.hid (HK4.out.below' hb5); obtain rfl : mm = none := (by simpa using hsome); clear hsome; clear hb5)
      | (go_at_call 17; have hgd := HB7; refine (HC2.out w7 HB7.out).mono ?_; rintro e w8 ⟨rfl, hb8⟩; have HB8 := Lib.hid (HB7.out.trans (hb8.mono HB7.out.size)); clear hb8)
      | (go_at_call 17; refine (HC.out w5 HB5.out).mono ?_; rintro e w7 ⟨rfl, hb7⟩; have HB7 := Lib.hid (HB5.out.trans (hb7.mono HB5.out.size)); have HK7 := Lib.hid (HK5.out.below' hb7); have c0 : w7.cell? ⟨w.heap.size, 0, none⟩ = some (.int .i64 r.p.fr) := (HK7.out.cell 0).trans rfl; have c1 : w7.cell? ⟨w.heap.size, 1, none⟩ = some (.int .i64 r.p.la) := (HK7.out.cell 1).trans rfl; have c2 : w7.cell? ⟨w.heap.size, 2, none⟩ = some (.string r.p.lt) := (HK7.out.cell 2).trans rfl; have c3 : w7.cell? ⟨w.heap.size, 3, none⟩ = some (.slice r.eA r.p.ex.length r.ec) := (HK7.out.cell 3).trans rfl; have c4 : w7.cell? ⟨w.heap.size, 4, none⟩ = some (.slice r.bA r.p.bl.length r.bc) := (HK7.out.cell 4).trans rfl; clear hb7))
    go_ret
    exact ⟨rfl, HB8.out⟩
set_option maxHeartbeats 2000000 in
set_option maxRecDepth 100000 in
theorem checks9_walk (w : World) (r : Pl.R) (hp : Pl.PlanIn w r) :
    Calls Tryd.prog 4 #[Pl.pv r] w fun e w' => e = .returned (.bool true) ∧ Below w.heap.size w w' := by
  by_cases hf : Pl.fewP r.p = true
  · have e0 : Pl.pv r = .agg (Pl.enc r).toArray := rfl
    by_cases hr : Pl.right r.p = true
    · have hc : Pl.code r.p = 0 := by unfold Pl.code; rw [hr]; rfl
      refine checks_few w r hp hf true hr none 0 hc (fun W hb => ?_) rfl (fun h => by cases h)
      have h := new_right r w.heap.size W hp.wf (hp.e.below hb (Nat.le_refl _)) (hp.b.below hb (Nat.le_refl _)) hb.size hr
      rw [e0] at h
      refine h.mono ?_
      rintro e w' ⟨g, rfl, _, hb'⟩
      exact ⟨_, rfl, rfl, hb'⟩
    · have hr' : Pl.right r.p = false := by simpa using hr
      have hc : Pl.code r.p = 4 := by unfold Pl.code; rw [hr']; rfl
      refine checks_few w r hp hf false hr' none 4 hc (fun W hb => ?_) rfl (fun _ => rfl)
      have h := new_wrong r w.heap.size W hp.wf (hp.e.below hb (Nat.le_refl _)) (hp.b.below hb (Nat.le_refl _)) hb.size hr'
      rw [e0] at h
      refine h.mono ?_
      rintro e w' ⟨rfl, hb'⟩
      exact ⟨_, rfl, rfl, hb'⟩
  · have hf' : Pl.fewP r.p = false := by simpa using hf
    have HFW := Lib.hid (fun W => few_any r W)
    rw [hf'] at HFW
    have e0 : Pl.pv r = .agg (Pl.enc r).toArray := rfl
    rw [e0] at HFW ⊢
    clear e0 hp hf hf'
    go_enter Tryd.func4, Tryd.ntmps4
    go_wp2_with (first
      | (refine Rw.wpList_box rfl 32 _ rfl (Pl.enc r) rfl ?_; intro w1 K1 b1 z1; have HB1 := Lib.hid b1; have HK1 := Lib.hid K1; clear z1)
      | (go_at_call 9; refine (awake_any _).mono ?_; rintro e w2 ⟨rfl, hb2⟩; have HB2 := Lib.hid (HB1.out.trans (hb2.mono HB1.out.size)); have HK2 := Lib.hid (HK1.out.below' hb2); clear hb2)
      | (refine wpList_load_mid rfl 32 _ rfl w.heap.size 0 rfl (Pl.enc r) _ HK2.out.range Pl.uP Pl.rP Pl.iP ?_)
      | (go_at_call 14; refine (HFW.out _).mono ?_; rintro e w3 ⟨rfl, hb3⟩; have HB3 := Lib.hid (HB2.out.trans (hb3.mono HB2.out.size)); clear hb3))
    go_ret
    exact ⟨rfl, HB3.out⟩

set_option maxRecDepth 100000 in
theorem planChecks_contract (H : Type) (enc : TypeId × Value → H) (W : World) (base : Nat) (args : Array Value) (ds gs : List (DataW H)) (before : List MemPlace)
    (hval0 : ∀ (j : Nat) t v, Tryd.f4.params[j]? = some t → args[j]? = some v → Value.okWide Tryd.prog W .any base t v)
    (hW : DataW.Whole enc Tryd.prog Tryd.f4.params.toList Rows.planChecksSpec.vars false W args.toList ds gs before) :
    Calls Tryd.prog 4 args W fun e W' => ∃ v, e = .returned v ∧ Rows.planChecksSpec.post enc Tryd.prog Tryd.f4 false true false false W args v W' := by
  have hval : ∀ (j : Nat) t v, Tryd.f4.params[j]? = some t → args[j]? = some v → Value.okWide Tryd.prog W .any base t v := hval0
  have hW' := hW
  obtain ⟨p, q, hA0, hV, rfl, hfz, hnd⟩ := hW
  have hA : DataW.TrodAll enc Tryd.prog W 0 (fun _ => true) true Tryd.f4.params.toList args.toList ds p := hA0
  rw [Tryd.params4] at hA hval
  obtain ⟨v0, vs0, d0, ds0, p0, q0, hargs, rfl, rfl, h0, r0⟩ := trodAll_cons hA
  obtain ⟨rfl, rfl, rfl⟩ := trodAll_nil r0
  obtain rfl : args = #[v0] := by cases args; simp_all
  obtain ⟨rfl, rfl⟩ := trodVars_none hV
  have k0 := h0
  have lt0 : ∀ x ∈ p0, x.block < W.heap.size := by obtain ⟨m, hm⟩ := k0; exact DataW.trod_lt m _ _ _ hm
  obtain ⟨x0, rfl, b0⟩ := Pl.open_plan (hval 0 32 v0 rfl rfl) h0
  clear hA0 hval0
  refine (checks9_walk W x0 b0).mono fun e W' ⟨he, bel⟩ => ?_
  subst he
  exact ⟨_, rfl, _, _, _, [], _, [], hW', trodAll_mk1 (shut_bool Tryd.underlying4 _), (trodAll_cons_mk (Below.trod laidOut (by kernel_rfl) (of_decide_eq_true (by kernel_rfl)) k0 bel lt0) (trodAll_mk0)), rfl, bel.frame _, fun h => by cases h⟩

theorem planChecks_laid_met (os : Os) : laidMet Tryd.prog Rows.planChecksRow.laid ((laidWorld os).forCall (fun _ _ => 0) ⟨#[], #[.agg #[.int .i64 0, .int .i64 0, .string ⟨#[]⟩, .slice none 0 0, .slice none 0 0]], []⟩).memory :=
  laidMet_of_run' 8 (by kernel_rfl) (by kernel_rfl)
theorem planChecks_reads (os : Os) {H : Type} (enc : TypeId × Value → H) : ∃ places, DataW.whole enc Tryd.prog ((laidWorld os).forCall (fun _ _ => 0) ⟨#[], #[.agg #[.int .i64 0, .int .i64 0, .string ⟨#[]⟩, .slice none 0 0, .slice none 0 0]], []⟩).memory Tryd.f4.params.toList Rows.planChecksSpec.vars false (#[.agg #[.int .i64 0, .int .i64 0, .string ⟨#[]⟩, .slice none 0 0, .slice none 0 0]] : Array Value).toList 8 = some ([.agg [.lit (.int .i64 0), .lit (.int .i64 0), .lit (.string []), .nil, .nil]], [], places) :=
  ⟨[], by kernel_rfl⟩

set_option maxRecDepth 100000 in
theorem planChecks_lifted (os : Os) (started : os.Started) (H : Type) (enc : TypeId × Value → H) (F : Stop.Interp) :
    ReturnsInHanded {} Tryd.checked os 4 .any ((OpenSpec.ofChange Rows.planChecksSpec).preRow enc Tryd.prog Tryd.f4 Rows.planChecksRow.domain false Rows.planChecksRow.laid) (((OpenSpec.ofChange Rows.planChecksSpec).at F).post enc Tryd.prog Tryd.f4 false true false false) := by
  obtain ⟨places, hx⟩ := planChecks_reads os enc
  refine returnsInHanded_of_row (C := Tryd.checked) (s := OpenSpec.ofChange Rows.planChecksSpec) own started (by kernel_rfl) Tryd.func4
    (witness_row_at (enc := enc) (C := Tryd.checked) false (laidWorld os) #[.agg #[.int .i64 0, .int .i64 0, .string ⟨#[]⟩, .slice none 0 0, .slice none 0 0]] rfl (by kernel_rfl) (by kernel_rfl) (by kernel_rfl)
      (OpenSpec.preRow_of_cond 8 hx (by kernel_rfl) (fun k hk => by cases hk) (by kernel_rfl) (planChecks_laid_met os))) ?_
  intro W base args ds gs before hval hW _ _ _ hL _ _
  exact planChecks_contract H enc W base args ds gs before hval hW

theorem planChecks_said : Rows.PlanChecksSaid :=
  OpenClaim.holds_of_cond 4 Tryd.f4 rfl rfl rfl rfl rfl rfl rfl ⟨rfl, rfl, rfl, rfl, rfl⟩ rfl rfl rfl rfl rfl (by kernel_rfl) Tryd.func4 (by kernel_rfl)
    (of_decide_eq_true (by kernel_rfl)) (by unfold Func.isWrapper; first | (rw [if_pos (by decide +kernel)]; kernel_rfl) | (rw [if_neg (by decide +kernel)]; exact ⟨rfl, rfl⟩))
    (fun os started H enc _ F => by rw [OpenClaim.pre_eq_preRow]; exact planChecks_lifted os started H enc F)

theorem planChecks_plain (f : FuncId) (fn : Func) (hf : Tryd.pinned.checked.prog.funcNamed "jetway/jetwaylaw09.PlanChecks" = some f) (hfn : Tryd.pinned.checked.prog.funcs[f]? = some fn) :
    false = Tryd.pinned.checked.prog.looks [] ∧ ∀ (j : Nat) t, fn.params[j]? = some t → Tryd.pinned.checked.prog.wantsStandIn t = false := by
  obtain rfl : f = 4 := Option.some.inj ((show Tryd.prog.funcNamed "jetway/jetwaylaw09.PlanChecks" = some 4 by kernel_rfl).symm.trans hf) |>.symm
  obtain rfl : fn = Tryd.f4 := (Option.some.inj (Tryd.func4.symm.trans hfn)).symm
  refine ⟨by kernel_rfl, fun j t ht => ?_⟩
  rw [Tryd.params4] at ht
  have hm := Array.mem_of_getElem? ht
  obtain rfl : t = 32 := by simpa using hm
  exact (show Tryd.prog.wantsStandIn 32 = false by kernel_rfl)

/-- The card of PlanChecks. -/
theorem planChecks_holds : Rows.PlanChecksCardSaid :=
  Claim7.holds_tied_plain_at .later [] _ _ _ _ planChecks_said (fun _ h => by cases h) (by kernel_rfl) (fun _ h => by cases h) planChecks_row_tie rfl ⟨rfl, rfl⟩ (by kernel_rfl) rfl planChecks_plain (by kernel_rfl)
#print axioms planChecks_holds

end Go.Proofs.YtonfkonjkgalhaaDoor
