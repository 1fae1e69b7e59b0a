/- PlanBack, for every input: seats come back from their bits, each once and rising, and bits of which seats came from these seats; no conditions. -/
import Derived.Test.YtonfkonjkgalhaaDoorPlBkm
namespace Go.Proofs.YtonfkonjkgalhaaDoor
open Go.ChangeShapes Go.WideShapes Go.ChangeAt Go.RowKit
set_option linter.unusedVariables false

set_option maxHeartbeats 2000000 in
set_option maxRecDepth 100000 in
theorem back9_walk (w : World) (r : Pl.R) (hp : Pl.PlanIn w r) (A1 : Option Addr) (l1 : List Int) (c1 : Nat) (h1 : Pl.Ints w w.heap.size A1 l1 ∧ l1.length ≤ 9223372036854775807 ∧ l1.length ≤ c1 ∧ (∀ n ∈ l1, (Lit.int .i64 n).wf = true) ∧ (A1 = none → c1 = 0))
    (A2 : Option Addr) (l2 : List Nat) (c2 : Nat) (h2 : Pl.Nums w w.heap.size A2 l2 ∧ l2.length ≤ 9223372036854775807 ∧ l2.length ≤ c2 ∧ (∀ j, Pl.gN l2 j < 18446744073709551616) ∧ (A2 = none → c2 = 0)) :
    Calls Tryd.prog 7 #[Pl.pv r, .slice A1 l1.length c1, .slice A2 l2.length c2] w fun e w' => e = .returned (.bool true) ∧ Below w.heap.size w w' := by
  have hl1 := h1.2.1
  by_cases hf : Pl.fewP r.p = true
  · by_cases hpk : l1.length ≤ 700
    · by_cases hr : Pl.right r.p = true
      · exact back_main r w hp hf hr A1 l1 c1 h1.1 h1.2.2.2.1 hpk A2 l2 c2 h2.1 h2.2.2.2.1 h2.2.1
      · have hr' : Pl.right r.p = false := by simpa using hr
        have HFW := Lib.hid (fun W => few_any r W)
        rw [hf] at HFW
        have HMD := Lib.hid (fun (W : World) (hb : Below w.heap.size w W) => made_wrong r 0 W (hp.below hb) hf hr')
        have e0 : Pl.pv r = .agg (Pl.enc r).toArray := rfl
        rw [e0] at HFW HMD ⊢
        clear e0 hp hf hr hr' h1 h2
        go_enter Tryd.func7, Tryd.ntmps7
        go_wp2_with (first
          | (refine Rw.wpList_box rfl 32 _ rfl (Pl.enc r) rfl ?_; intro w1 K1 b1 z1; have HB1 := Lib.hid b1; have HK1 := Lib.hid K1; clear z1)
          | (go_at_call 9; refine (awake_any _).mono ?_; rintro e w2 ⟨rfl, hb2⟩; have HB2 := Lib.hid (HB1.out.trans (hb2.mono HB1.out.size)); have HK2 := Lib.hid (HK1.out.below' hb2); clear hb2)
          | (refine wpList_load_mid rfl 32 _ rfl w.heap.size 0 rfl (Pl.enc r) _ HK3.out.range Pl.uP Pl.rP Pl.iP ?_)
          | (refine wpList_load_mid rfl 32 _ rfl w.heap.size 0 rfl (Pl.enc r) _ HK2.out.range Pl.uP Pl.rP Pl.iP ?_)
          | (go_at_call 14; refine (HFW.out _).mono ?_; rintro e w3 ⟨rfl, hb3⟩; have HB3 := Lib.hid (HB2.out.trans (hb3.mono HB2.out.size)); have HK3 := Lib.hid (HK2.out.below' hb3); clear hb3)
          | (go_at_call 18; refine (HMD.out w3 HB3.out).mono ?_; rintro e w4 ⟨rfl, hb4⟩; have HB4 := Lib.hid (HB3.out.trans (hb4.mono HB3.out.size)); clear hb4))
        go_ret
        exact ⟨rfl, HB4.out⟩
    · have HFW := Lib.hid (fun W => few_any r W)
      rw [hf] at HFW
      have hd : decide ((700 : Int) < (l1.length : Int)) = true := by simp; omega
      have e0 : Pl.pv r = .agg (Pl.enc r).toArray := rfl
      rw [e0] at HFW ⊢
      clear e0 hp hf h1 h2
      go_enter Tryd.func7, Tryd.ntmps7
      go_wp2_with (first
        | (refine Rw.wpList_box rfl 32 _ rfl (Pl.enc r) rfl ?_; intro w1 K1 b1 z1; have HB1 := Lib.hid b1; have HK1 := Lib.hid K1; clear z1)
        | (go_at_call 9; refine (awake_any _).mono ?_; rintro e w2 ⟨rfl, hb2⟩; have HB2 := Lib.hid (HB1.out.trans (hb2.mono HB1.out.size)); have HK2 := Lib.hid (HK1.out.below' hb2); clear hb2)
        | (refine wpList_load_mid rfl 32 _ rfl w.heap.size 0 rfl (Pl.enc r) _ HK2.out.range Pl.uP Pl.rP Pl.iP ?_)
        | (go_at_call 14; refine (HFW.out _).mono ?_; rintro e w3 ⟨rfl, hb3⟩; have HB3 := Lib.hid (HB2.out.trans (hb3.mono HB2.out.size)); clear hb3))
      go_ret
      exact ⟨rfl, HB3.out⟩
  · have hf' : Pl.fewP r.p = false := by simpa using hf
    have HFW := Lib.hid (fun W => few_any r W)
    rw [hf'] at HFW
    have e0 : Pl.pv r = .agg (Pl.enc r).toArray := rfl
    rw [e0] at HFW ⊢
    clear e0 hp hf hf' h1 h2
    go_enter Tryd.func7, Tryd.ntmps7
    go_wp2_with (first
      | (refine Rw.wpList_box rfl 32 _ rfl (Pl.enc r) rfl ?_; intro w1 K1 b1 z1; have HB1 := Lib.hid b1; have HK1 := Lib.hid K1; clear z1)
      | (go_at_call 9; refine (awake_any _).mono ?_; rintro e w2 ⟨rfl, hb2⟩; have HB2 := Lib.hid (HB1.out.trans (hb2.mono HB1.out.size)); have HK2 := Lib.hid (HK1.out.below' hb2); clear hb2)
      | (refine wpList_load_mid rfl 32 _ rfl w.heap.size 0 rfl (Pl.enc r) _ HK2.out.range Pl.uP Pl.rP Pl.iP ?_)
      | (go_at_call 14; refine (HFW.out _).mono ?_; rintro e w3 ⟨rfl, hb3⟩; have HB3 := Lib.hid (HB2.out.trans (hb3.mono HB2.out.size)); clear hb3))
    go_ret
    exact ⟨rfl, HB3.out⟩

set_option maxRecDepth 100000 in
theorem planBack_contract (H : Type) (enc : TypeId × Value → H) (W : World) (base : Nat) (args : Array Value) (ds gs : List (DataW H)) (before : List MemPlace)
    (hval0 : ∀ (j : Nat) t v, Tryd.f7.params[j]? = some t → args[j]? = some v → Value.okWide Tryd.prog W .any base t v)
    (hW : DataW.Whole enc Tryd.prog Tryd.f7.params.toList Rows.planBackSpec.vars false W args.toList ds gs before) :
    Calls Tryd.prog 7 args W fun e W' => ∃ v, e = .returned v ∧ Rows.planBackSpec.post enc Tryd.prog Tryd.f7 false true false false W args v W' := by
  have hval : ∀ (j : Nat) t v, Tryd.f7.params[j]? = some t → args[j]? = some v → Value.okWide Tryd.prog W .any base t v := hval0
  have hW' := hW
  obtain ⟨p, q, hA0, hV, rfl, hfz, hnd⟩ := hW
  have hA : DataW.TrodAll enc Tryd.prog W 0 (fun _ => true) true Tryd.f7.params.toList args.toList ds p := hA0
  rw [Tryd.params7] at hA hval
  obtain ⟨v0, vs0, d0, ds0, p0, q0, hargs, rfl, rfl, h0, r0⟩ := trodAll_cons hA
  obtain ⟨v1, vs1, d1, ds1, p1, q1, rfl, rfl, rfl, h1, r1⟩ := trodAll_cons r0
  obtain ⟨v2, vs2, d2, ds2, p2, q2, rfl, rfl, rfl, h2, r2⟩ := trodAll_cons r1
  obtain ⟨rfl, rfl, rfl⟩ := trodAll_nil r2
  obtain rfl : args = #[v0, v1, v2] := by cases args; simp_all
  obtain ⟨rfl, rfl⟩ := trodVars_none hV
  have k0 := h0
  have lt0 : ∀ x ∈ p0, x.block < W.heap.size := by obtain ⟨m, hm⟩ := k0; exact DataW.trod_lt m _ _ _ hm
  obtain ⟨x0, rfl, b0⟩ := Pl.open_plan (hval 0 32 v0 rfl rfl) h0
  have k1 := h1
  have lt1 : ∀ x ∈ p1, x.block < W.heap.size := by obtain ⟨m, hm⟩ := k1; exact DataW.trod_lt m _ _ _ hm
  obtain ⟨a1, len1, cap1, rfl⟩ := okWide_slice Tryd.underlying29 (hval 1 29 v1 rfl rfl)
  obtain ⟨fuel1, hf1⟩ := h1
  obtain ⟨A1, l1, c1, hcs1, b1⟩ := Pl.trod_ints hf1
  simp only [Value.cells, List.cons.injEq, and_true, Value.slice.injEq] at hcs1
  obtain ⟨rfl, rfl, rfl⟩ := hcs1
  have k2 := h2
  have lt2 : ∀ x ∈ p2, x.block < W.heap.size := by obtain ⟨m, hm⟩ := k2; exact DataW.trod_lt m _ _ _ hm
  obtain ⟨a2, len2, cap2, rfl⟩ := okWide_slice Tryd.underlying49 (hval 2 49 v2 rfl rfl)
  obtain ⟨fuel2, hf2⟩ := h2
  obtain ⟨A2, l2, c2, hcs2, b2⟩ := Pl.trod_u64s hf2
  simp only [Value.cells, List.cons.injEq, and_true, Value.slice.injEq] at hcs2
  obtain ⟨rfl, rfl, rfl⟩ := hcs2
  clear hA0 hval0
  refine (back9_walk W x0 b0 _ l1 _ b1 _ l2 _ b2).mono fun e W' ⟨he, bel⟩ => ?_
  subst he
  exact ⟨_, rfl, _, _, _, [], _, [], hW', trodAll_mk1 (shut_bool Tryd.underlying4 _), (trodAll_cons_mk (Below.trod laidOut (by kernel_rfl) (of_decide_eq_true (by kernel_rfl)) k0 bel lt0) (trodAll_cons_mk (Below.trod laidOut (by kernel_rfl) (of_decide_eq_true (by kernel_rfl)) k1 bel lt1) (trodAll_cons_mk (Below.trod laidOut (by kernel_rfl) (of_decide_eq_true (by kernel_rfl)) k2 bel lt2) (trodAll_mk0)))), rfl, bel.frame _, fun h => by cases h⟩

theorem planBack_laid_met (os : Os) : laidMet Tryd.prog Rows.planBackRow.laid ((laidWorld os).forCall (fun _ _ => 0) ⟨#[], #[.agg #[.int .i64 0, .int .i64 0, .string ⟨#[]⟩, .slice none 0 0, .slice none 0 0], .slice none 0 0, .slice none 0 0], []⟩).memory :=
  laidMet_of_run' 8 (by kernel_rfl) (by kernel_rfl)
theorem planBack_reads (os : Os) {H : Type} (enc : TypeId × Value → H) : ∃ places, DataW.whole enc Tryd.prog ((laidWorld os).forCall (fun _ _ => 0) ⟨#[], #[.agg #[.int .i64 0, .int .i64 0, .string ⟨#[]⟩, .slice none 0 0, .slice none 0 0], .slice none 0 0, .slice none 0 0], []⟩).memory Tryd.f7.params.toList Rows.planBackSpec.vars false (#[.agg #[.int .i64 0, .int .i64 0, .string ⟨#[]⟩, .slice none 0 0, .slice none 0 0], .slice none 0 0, .slice none 0 0] : Array Value).toList 8 = some ([.agg [.lit (.int .i64 0), .lit (.int .i64 0), .lit (.string []), .nil, .nil], .nil, .nil], [], places) :=
  ⟨[], by kernel_rfl⟩

set_option maxRecDepth 100000 in
theorem planBack_lifted (os : Os) (started : os.Started) (H : Type) (enc : TypeId × Value → H) (F : Stop.Interp) :
    ReturnsInHanded {} Tryd.checked os 7 .any ((OpenSpec.ofChange Rows.planBackSpec).preRow enc Tryd.prog Tryd.f7 Rows.planBackRow.domain false Rows.planBackRow.laid) (((OpenSpec.ofChange Rows.planBackSpec).at F).post enc Tryd.prog Tryd.f7 false true false false) := by
  obtain ⟨places, hx⟩ := planBack_reads os enc
  refine returnsInHanded_of_row (C := Tryd.checked) (s := OpenSpec.ofChange Rows.planBackSpec) own started (by kernel_rfl) Tryd.func7
    (witness_row_at (enc := enc) (C := Tryd.checked) false (laidWorld os) #[.agg #[.int .i64 0, .int .i64 0, .string ⟨#[]⟩, .slice none 0 0, .slice none 0 0], .slice none 0 0, .slice none 0 0] rfl (by kernel_rfl) (by kernel_rfl) (by kernel_rfl)
      (OpenSpec.preRow_of_cond 8 hx (by kernel_rfl) (fun k hk => by cases hk) (by kernel_rfl) (planBack_laid_met os))) ?_
  intro W base args ds gs before hval hW _ _ _ hL _ _
  exact planBack_contract H enc W base args ds gs before hval hW

theorem planBack_said : Rows.PlanBackSaid :=
  OpenClaim.holds_of_cond 7 Tryd.f7 rfl rfl rfl rfl rfl rfl rfl ⟨rfl, rfl, rfl, rfl, rfl⟩ rfl rfl rfl rfl rfl (by kernel_rfl) Tryd.func7 (by kernel_rfl)
    (of_decide_eq_true (by kernel_rfl)) (by unfold Func.isWrapper; first | (rw [if_pos (by decide +kernel)]; kernel_rfl) | (rw [if_neg (by decide +kernel)]; exact ⟨rfl, rfl⟩))
    (fun os started H enc _ F => by rw [OpenClaim.pre_eq_preRow]; exact planBack_lifted os started H enc F)

theorem planBack_plain (f : FuncId) (fn : Func) (hf : Tryd.pinned.checked.prog.funcNamed "jetway/jetwaylaw09.PlanBack" = some f) (hfn : Tryd.pinned.checked.prog.funcs[f]? = some fn) :
    false = Tryd.pinned.checked.prog.looks [] ∧ ∀ (j : Nat) t, fn.params[j]? = some t → Tryd.pinned.checked.prog.wantsStandIn t = false := by
  obtain rfl : f = 7 := Option.some.inj ((show Tryd.prog.funcNamed "jetway/jetwaylaw09.PlanBack" = some 7 by kernel_rfl).symm.trans hf) |>.symm
  obtain rfl : fn = Tryd.f7 := (Option.some.inj (Tryd.func7.symm.trans hfn)).symm
  refine ⟨by kernel_rfl, fun j t ht => ?_⟩
  rw [Tryd.params7] at ht
  have hm := Array.mem_of_getElem? ht
  have ho : t = 32 ∨ t = 29 ∨ t = 49 := by simpa using hm
  rcases ho with rfl | rfl | rfl
  · exact (show Tryd.prog.wantsStandIn 32 = false by kernel_rfl)
  · exact (show Tryd.prog.wantsStandIn 29 = false by kernel_rfl)
  · exact (show Tryd.prog.wantsStandIn 49 = false by kernel_rfl)

/-- The card of PlanBack. -/
theorem planBack_holds : Rows.PlanBackCardSaid :=
  Claim7.holds_tied_plain_at .later [] _ _ _ _ planBack_said (fun _ h => by cases h) (by kernel_rfl) (fun _ h => by cases h) planBack_row_tie rfl ⟨rfl, rfl⟩ (by kernel_rfl) rfl planBack_plain (by kernel_rfl)
#print axioms planBack_holds

end Go.Proofs.YtonfkonjkgalhaaDoor
