/- PlanSeats, for every input: the seats of a plan, their numbers and marks are just the document's; no conditions. -/
import Derived.Test.YtonfkonjkgalhaaDoorPlStm
import Derived.Test.YtonfkonjkgalhaaDoorPlFrm
namespace Go.Proofs.YtonfkonjkgalhaaDoor
open Go.ChangeShapes Go.WideShapes Go.ChangeAt Go.RowKit
set_option linter.unusedVariables false

set_option maxHeartbeats 2000000 in
set_option maxRecDepth 100000 in
theorem seats9_walk (w : World) (r : Pl.R) (hp : Pl.PlanIn w r) (s : Pl.S) (hs : Pl.WS s) :
    Calls Tryd.prog 5 #[Pl.pv r, Pl.sv s] w fun e w' => e = .returned (.bool true) ∧ Below w.heap.size w w' := by
  obtain ⟨s1, s2⟩ := s
  have e1 : Pl.sv (s1, s2) = .agg #[.int .i64 s1, .int .u8 s2] := rfl
  rw [e1]
  clear e1
  by_cases hf : Pl.fewP r.p = true
  · by_cases hr : Pl.right r.p = true
    · exact seats_main r s1 s2 hs w hp hf hr
    · have hr' : Pl.right r.p = false := by simpa using hr
      have HFW := Lib.hid (fun W => few_any r W)
      rw [hf] at HFW
      have HMD := Lib.hid (fun (W : World) (hb : Below w.heap.size w W) => made_wrong r 0 W (hp.below hb) hf hr')
      have HRG := Lib.hid (fun (W : World) (hb : Below w.heap.size w W) => rright_any r w.heap.size W hp.wf (hp.e.below hb (Nat.le_refl _)) (hp.b.below hb (Nat.le_refl _)) hb.size)
      rw [hr'] at HRG
      have e0 : Pl.pv r = .agg (Pl.enc r).toArray := rfl
      rw [e0] at HFW HMD HRG ⊢
      clear e0 hp hf hr hr' hs
      go_enter Tryd.func5, Tryd.ntmps5
      go_wp2_with (first
        | (refine Rw.wpList_box rfl 32 _ rfl (Pl.enc r) rfl ?_; intro w1 K1 b1 z1; have HB1 := Lib.hid b1; have HK1 := Lib.hid K1; clear z1)
        | (refine Rw.wpList_box rfl 23 _ rfl [.int .i64 s1, .int .u8 s2] rfl ?_; intro wS KS bS zS; have HBS := Lib.hid (HB1.out.trans (bS.mono HB1.out.size)); have HK1S := Lib.hid (HK1.out.below' bS); clear zS KS bS)
        | (go_at_call 9; refine (awake_any _).mono ?_; rintro e w2 ⟨rfl, hb2⟩; have HB2 := Lib.hid (HBS.out.trans (hb2.mono HBS.out.size)); have HK2 := Lib.hid (HK1S.out.below' hb2); clear hb2)
        | (refine wpList_load_mid rfl 32 _ rfl w.heap.size 0 rfl (Pl.enc r) _ HK4.out.range Pl.uP Pl.rP Pl.iP ?_)
        | (refine wpList_load_mid rfl 32 _ rfl w.heap.size 0 rfl (Pl.enc r) _ HK3.out.range Pl.uP Pl.rP Pl.iP ?_)
        | (refine wpList_load_mid rfl 32 _ rfl w.heap.size 0 rfl (Pl.enc r) _ HK2.out.range Pl.uP Pl.rP Pl.iP ?_)
        | (go_at_call 14; refine (HFW.out _).mono ?_; rintro e w3 ⟨rfl, hb3⟩; have HB3 := Lib.hid (HB2.out.trans (hb3.mono HB2.out.size)); have HK3 := Lib.hid (HK2.out.below' hb3); clear hb3)
        | (go_at_call 18; refine (HMD.out w3 HB3.out).mono ?_; rintro e w4 ⟨rfl, hb4⟩; have HB4 := Lib.hid (HB3.out.trans (hb4.mono HB3.out.size)); have HK4 := Lib.hid (HK3.out.below' hb4); clear hb4)
        | (go_at_call 15; refine (HRG.out w4 HB4.out).mono ?_; rintro e w5 ⟨rfl, hb5⟩; have HB5 := Lib.hid (HB4.out.trans (hb5.mono HB4.out.size)); clear hb5))
      go_ret
      exact ⟨rfl, HB5.out⟩
  · have hf' : Pl.fewP r.p = false := by simpa using hf
    have HFW := Lib.hid (fun W => few_any r W)
    rw [hf'] at HFW
    have e0 : Pl.pv r = .agg (Pl.enc r).toArray := rfl
    rw [e0] at HFW ⊢
    clear e0 hp hf hf' hs
    go_enter Tryd.func5, Tryd.ntmps5
    go_wp2_with (first
      | (refine Rw.wpList_box rfl 32 _ rfl (Pl.enc r) rfl ?_; intro w1 K1 b1 z1; have HB1 := Lib.hid b1; have HK1 := Lib.hid K1; clear z1)
      | (refine Rw.wpList_box rfl 23 _ rfl [.int .i64 s1, .int .u8 s2] rfl ?_; intro wS KS bS zS; have HBS := Lib.hid (HB1.out.trans (bS.mono HB1.out.size)); have HK1S := Lib.hid (HK1.out.below' bS); clear zS KS bS)
      | (go_at_call 9; refine (awake_any _).mono ?_; rintro e w2 ⟨rfl, hb2⟩; have HB2 := Lib.hid (HBS.out.trans (hb2.mono HBS.out.size)); have HK2 := Lib.hid (HK1S.out.below' hb2); clear hb2)
      | (refine wpList_load_mid rfl 32 _ rfl w.heap.size 0 rfl (Pl.enc r) _ HK2.out.range Pl.uP Pl.rP Pl.iP ?_)
      | (go_at_call 14; refine (HFW.out _).mono ?_; rintro e w3 ⟨rfl, hb3⟩; have HB3 := Lib.hid (HB2.out.trans (hb3.mono HB2.out.size)); clear hb3))
    go_ret
    exact ⟨rfl, HB3.out⟩

set_option maxRecDepth 100000 in
theorem planSeats_contract (H : Type) (enc : TypeId × Value → H) (W : World) (base : Nat) (args : Array Value) (ds gs : List (DataW H)) (before : List MemPlace)
    (hval0 : ∀ (j : Nat) t v, Tryd.f5.params[j]? = some t → args[j]? = some v → Value.okWide Tryd.prog W .any base t v)
    (hW : DataW.Whole enc Tryd.prog Tryd.f5.params.toList Rows.planSeatsSpec.vars false W args.toList ds gs before) :
    Calls Tryd.prog 5 args W fun e W' => ∃ v, e = .returned v ∧ Rows.planSeatsSpec.post enc Tryd.prog Tryd.f5 false true false false W args v W' := by
  have hval : ∀ (j : Nat) t v, Tryd.f5.params[j]? = some t → args[j]? = some v → Value.okWide Tryd.prog W .any base t v := hval0
  have hW' := hW
  obtain ⟨p, q, hA0, hV, rfl, hfz, hnd⟩ := hW
  have hA : DataW.TrodAll enc Tryd.prog W 0 (fun _ => true) true Tryd.f5.params.toList args.toList ds p := hA0
  rw [Tryd.params5] at hA hval
  obtain ⟨v0, vs0, d0, ds0, p0, q0, hargs, rfl, rfl, h0, r0⟩ := trodAll_cons hA
  obtain ⟨v1, vs1, d1, ds1, p1, q1, rfl, rfl, rfl, h1, r1⟩ := trodAll_cons r0
  obtain ⟨rfl, rfl, rfl⟩ := trodAll_nil r1
  obtain rfl : args = #[v0, v1] := by cases args; simp_all
  obtain ⟨rfl, rfl⟩ := trodVars_none hV
  have k0 := h0
  have lt0 : ∀ x ∈ p0, x.block < W.heap.size := by obtain ⟨m, hm⟩ := k0; exact DataW.trod_lt m _ _ _ hm
  obtain ⟨x0, rfl, b0⟩ := Pl.open_plan (hval 0 32 v0 rfl rfl) h0
  have k1 := h1
  have lt1 : ∀ x ∈ p1, x.block < W.heap.size := by obtain ⟨m, hm⟩ := k1; exact DataW.trod_lt m _ _ _ hm
  obtain ⟨x1, rfl, b1⟩ := Pl.open_seat (hval 1 23 v1 rfl rfl) h1
  clear hA0 hval0
  refine (seats9_walk W x0 b0 x1 b1).mono fun e W' ⟨he, bel⟩ => ?_
  subst he
  exact ⟨_, rfl, _, _, _, [], _, [], hW', trodAll_mk1 (shut_bool Tryd.underlying4 _), (trodAll_cons_mk (Below.trod laidOut (by kernel_rfl) (of_decide_eq_true (by kernel_rfl)) k0 bel lt0) (trodAll_cons_mk (Below.trod laidOut (by kernel_rfl) (of_decide_eq_true (by kernel_rfl)) k1 bel lt1) (trodAll_mk0))), rfl, bel.frame _, fun h => by cases h⟩

theorem planSeats_laid_met (os : Os) : laidMet Tryd.prog Rows.planSeatsRow.laid ((laidWorld os).forCall (fun _ _ => 0) ⟨#[], #[.agg #[.int .i64 0, .int .i64 0, .string ⟨#[]⟩, .slice none 0 0, .slice none 0 0], .agg #[.int .i64 0, .int .u8 0]], []⟩).memory :=
  laidMet_of_run' 8 (by kernel_rfl) (by kernel_rfl)
theorem planSeats_reads (os : Os) {H : Type} (enc : TypeId × Value → H) : ∃ places, DataW.whole enc Tryd.prog ((laidWorld os).forCall (fun _ _ => 0) ⟨#[], #[.agg #[.int .i64 0, .int .i64 0, .string ⟨#[]⟩, .slice none 0 0, .slice none 0 0], .agg #[.int .i64 0, .int .u8 0]], []⟩).memory Tryd.f5.params.toList Rows.planSeatsSpec.vars false (#[.agg #[.int .i64 0, .int .i64 0, .string ⟨#[]⟩, .slice none 0 0, .slice none 0 0], .agg #[.int .i64 0, .int .u8 0]] : Array Value).toList 8 = some ([.agg [.lit (.int .i64 0), .lit (.int .i64 0), .lit (.string []), .nil, .nil], .agg [.lit (.int .i64 0), .lit (.int .u8 0)]], [], places) :=
  ⟨[], by kernel_rfl⟩

set_option maxRecDepth 100000 in
theorem planSeats_lifted (os : Os) (started : os.Started) (H : Type) (enc : TypeId × Value → H) (F : Stop.Interp) :
    ReturnsInHanded {} Tryd.checked os 5 .any ((OpenSpec.ofChange Rows.planSeatsSpec).preRow enc Tryd.prog Tryd.f5 Rows.planSeatsRow.domain false Rows.planSeatsRow.laid) (((OpenSpec.ofChange Rows.planSeatsSpec).at F).post enc Tryd.prog Tryd.f5 false true false false) := by
  obtain ⟨places, hx⟩ := planSeats_reads os enc
  refine returnsInHanded_of_row (C := Tryd.checked) (s := OpenSpec.ofChange Rows.planSeatsSpec) own started (by kernel_rfl) Tryd.func5
    (witness_row_at (enc := enc) (C := Tryd.checked) false (laidWorld os) #[.agg #[.int .i64 0, .int .i64 0, .string ⟨#[]⟩, .slice none 0 0, .slice none 0 0], .agg #[.int .i64 0, .int .u8 0]] rfl (by kernel_rfl) (by kernel_rfl) (by kernel_rfl)
      (OpenSpec.preRow_of_cond 8 hx (by kernel_rfl) (fun k hk => by cases hk) (by kernel_rfl) (planSeats_laid_met os))) ?_
  intro W base args ds gs before hval hW _ _ _ hL _ _
  exact planSeats_contract H enc W base args ds gs before hval hW

theorem planSeats_said : Rows.PlanSeatsSaid :=
  OpenClaim.holds_of_cond 5 Tryd.f5 rfl rfl rfl rfl rfl rfl rfl ⟨rfl, rfl, rfl, rfl, rfl⟩ rfl rfl rfl rfl rfl (by kernel_rfl) Tryd.func5 (by kernel_rfl)
    (of_decide_eq_true (by kernel_rfl)) (by unfold Func.isWrapper; first | (rw [if_pos (by decide +kernel)]; kernel_rfl) | (rw [if_neg (by decide +kernel)]; exact ⟨rfl, rfl⟩))
    (fun os started H enc _ F => by rw [OpenClaim.pre_eq_preRow]; exact planSeats_lifted os started H enc F)

theorem planSeats_plain (f : FuncId) (fn : Func) (hf : Tryd.pinned.checked.prog.funcNamed "jetway/jetwaylaw09.PlanSeats" = some f) (hfn : Tryd.pinned.checked.prog.funcs[f]? = some fn) :
    false = Tryd.pinned.checked.prog.looks [] ∧ ∀ (j : Nat) t, fn.params[j]? = some t → Tryd.pinned.checked.prog.wantsStandIn t = false := by
  obtain rfl : f = 5 := Option.some.inj ((show Tryd.prog.funcNamed "jetway/jetwaylaw09.PlanSeats" = some 5 by kernel_rfl).symm.trans hf) |>.symm
  obtain rfl : fn = Tryd.f5 := (Option.some.inj (Tryd.func5.symm.trans hfn)).symm
  refine ⟨by kernel_rfl, fun j t ht => ?_⟩
  rw [Tryd.params5] at ht
  have hm := Array.mem_of_getElem? ht
  have ho : t = 32 ∨ t = 23 := by simpa using hm
  rcases ho with rfl | rfl
  · exact (show Tryd.prog.wantsStandIn 32 = false by kernel_rfl)
  · exact (show Tryd.prog.wantsStandIn 23 = false by kernel_rfl)

/-- The card of PlanSeats. -/
theorem planSeats_holds : Rows.PlanSeatsCardSaid :=
  Claim7.holds_tied_plain_at .later [] _ _ _ _ planSeats_said (fun _ h => by cases h) (by kernel_rfl) (fun _ h => by cases h) planSeats_row_tie rfl ⟨rfl, rfl⟩ (by kernel_rfl) rfl planSeats_plain (by kernel_rfl)
#print axioms planSeats_holds

end Go.Proofs.YtonfkonjkgalhaaDoor
