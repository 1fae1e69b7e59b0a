/- DateMoments, for every input: a day and a minute make a moment and come back, and numbers outside are refused; the one condition is the card's: the table of the months' lengths is as the program's text lays it. -/
import Derived.Test.YtgmcmidddhpbcaaDoorAwake
namespace Go.Proofs.YtgmcmidddhpbcaaDoor
open Go.ChangeShapes Go.WideShapes Go.ChangeAt Go.RowKit
set_option linter.unusedVariables false

theorem moments_walk (w : World) (hw : Dt.Tab w) (d : Int) (hd : (Lit.int .i64 d).wf = true) (m : Int) (hm : (Lit.int .i64 m).wf = true) :
    Calls Tryd.prog 5 #[.int .i64 d, .int .i64 m] w fun e w' => e = .returned (.bool true) ∧ Below w.heap.size w w' := by
  clear hd hm
  have HW := Lib.hid hw
  clear hw
  by_cases hA : 0 ≤ d ∧ d < 366 ∧ 0 ≤ m ∧ m < 1440
  · obtain ⟨h1, h2, h3, h4⟩ := hA
    have e1 : d / 1440 = 0 := by omega
    have e2 : d % 1440 = d := by omega
    have e3 : (d * 1440 + m) / 1440 = d := by omega
    have e4 : (d * 1440 + m) % 1440 = m := by omega
    go_enter Tryd.func5, Tryd.ntmps5
    go_wp2_with (first
      | (go_at_call 8; refine (awake_any _ HW.out).mono ?_; rintro e w1 ⟨rfl, hb1⟩)
      | (go_at_call 19; refine (join_yes _ _ _ (by omega) (by omega) (by omega) (by omega)).mono ?_; rintro e w' ⟨rfl, rfl⟩)
      | (go_at_call 20; refine (rjoin_yes _ _ _ (by omega) (by omega) (by omega) (by omega)).mono ?_; rintro e w' ⟨rfl, rfl⟩)
      | (go_at_call 21; refine (split_yes _ _ (by omega) (by omega)).mono ?_; rintro e w' ⟨rfl, rfl⟩))
    go_ret
    exact ⟨rfl, hb1⟩
  · have HA := Lib.hid hA
    clear hA
    by_cases hS : 0 ≤ d ∧ d < 527040
    · obtain ⟨h1, h2⟩ := hS
      have e1 : d / 1440 * 1440 + d % 1440 = d := by omega
      have HJ : Hid (∀ w, Calls Tryd.prog 19 #[.int .i64 (d / 1440), .int .i64 (d % 1440)] w fun e w' => e = .returned (.tuple #[.int .i64 d, .int .i64 0]) ∧ w = w') := fun w => by
        have := join_yes (d / 1440) (d % 1440) w (by omega) (by omega) (by omega) (by omega)
        rwa [e1] at this
      clear e1
      go_enter Tryd.func5, Tryd.ntmps5
      go_wp2_with (first
        | (go_at_call 8; refine (awake_any _ HW.out).mono ?_; rintro e w1 ⟨rfl, hb1⟩)
        | (go_at_call 19; refine (join_no _ _ _ (by have := HA.out; omega)).mono ?_; rintro e w' ⟨rfl, rfl⟩)
        | (go_at_call 19; refine (HJ.out _).mono ?_; rintro e w' ⟨rfl, rfl⟩)
        | (go_at_call 20; refine (rjoin_no _ _ _ (by have := HA.out; omega)).mono ?_; rintro e w' ⟨rfl, rfl⟩)
        | (go_at_call 21; refine (split_yes _ _ (by omega) (by omega)).mono ?_; rintro e w' ⟨rfl, rfl⟩))
      go_ret
      exact ⟨rfl, hb1⟩
    · rcases (show d < 0 ∨ (0 ≤ d ∧ 527040 ≤ d) by omega) with h1 | ⟨h1, h2⟩
      all_goals clear hS
      all_goals go_enter Tryd.func5, Tryd.ntmps5
      all_goals go_wp2_with (first
        | (go_at_call 8; refine (awake_any _ HW.out).mono ?_; rintro e w1 ⟨rfl, hb1⟩)
        | (go_at_call 19; refine (join_no _ _ _ (by have := HA.out; omega)).mono ?_; rintro e w' ⟨rfl, rfl⟩)
        | (go_at_call 20; refine (rjoin_no _ _ _ (by have := HA.out; omega)).mono ?_; rintro e w' ⟨rfl, rfl⟩)
        | (go_at_call 21; refine (split_no _ _ (by omega)).mono ?_; rintro e w' ⟨rfl, rfl⟩))
      all_goals go_ret
      all_goals exact ⟨by simp, hb1⟩

theorem dateMoments_contract (H : Type) (enc : TypeId × Value → H) (W : World) (base : Nat) (args : Array Value) (ds gs : List (DataW H)) (before : List MemPlace)
    (hval0 : ∀ (j : Nat) t v, Tryd.f5.params[j]? = some t → args[j]? = some v → Value.okWide Tryd.prog W .any base t v)
    (hW : DataW.Whole enc Tryd.prog Tryd.f5.params.toList Rows.dateMomentsSpec.vars false W args.toList ds gs before) (hL : laidMetH Tryd.prog Rows.dateMomentsRow.laid W) :
    Calls Tryd.prog 5 args W fun e W' => ∃ v, e = .returned v ∧ Rows.dateMomentsSpec.post enc Tryd.prog Tryd.f5 false true false false W args v W' := by
  have hT : Dt.Tab W := table hL
  have hval : ∀ (j : Nat) t v, Tryd.f5.params[j]? = some t → args[j]? = some v → Value.okWide Tryd.prog W .any base t v := hval0
  have hW' := hW
  obtain ⟨p, q, hA0, hV, rfl, hfz, hnd⟩ := hW
  have hA : DataW.TrodAll enc Tryd.prog W 0 (fun _ => true) true Tryd.f5.params.toList args.toList ds p := hA0
  rw [Tryd.params5] at hA hval
  obtain ⟨v0, vs0, d0, ds0, p0, q0, hargs, rfl, rfl, h0, r0⟩ := trodAll_cons hA
  obtain ⟨v1, vs1, d1, ds1, p1, q1, rfl, rfl, rfl, h1, r1⟩ := trodAll_cons r0
  obtain ⟨rfl, rfl, rfl⟩ := trodAll_nil r1
  obtain rfl : args = #[v0, v1] := by cases args; simp_all
  obtain ⟨rfl, rfl⟩ := trodVars_none hV
  obtain ⟨a0, rfl, rfl, rfl, w0⟩ := open_int Tryd.underlying3 (hval 0 3 v0 rfl rfl) h0
  obtain ⟨a1, rfl, rfl, rfl, w1⟩ := open_int Tryd.underlying3 (hval 1 3 v1 rfl rfl) h1
  clear hA0 hval0
  refine (moments_walk W hT a0 w0 a1 w1).mono fun e W' ⟨he, bel⟩ => ?_
  subst he
  exact ⟨_, rfl, _, _, _, [], _, [], hW', trodAll_mk1 (shut_bool Tryd.underlying4 _), (trodAll_cons_mk (shut_int Tryd.underlying3 w0) (trodAll_cons_mk (shut_int Tryd.underlying3 w1) (trodAll_mk0))), rfl, bel.frame _, fun h => by cases h⟩

theorem dateMoments_laid_met (os : Os) : laidMet Tryd.prog Rows.dateMomentsRow.laid ((laidWorld os).forCall (fun _ _ => 0) ⟨#[], #[.int .i64 0, .int .i64 0], []⟩).memory :=
  laidMet_of_run' 8 (by kernel_rfl) (by kernel_rfl)
theorem dateMoments_reads (os : Os) {H : Type} (enc : TypeId × Value → H) : ∃ places, DataW.whole enc Tryd.prog ((laidWorld os).forCall (fun _ _ => 0) ⟨#[], #[.int .i64 0, .int .i64 0], []⟩).memory Tryd.f5.params.toList Rows.dateMomentsSpec.vars false #[Value.int .i64 0, Value.int .i64 0].toList 8 = some ([.lit (.int .i64 0), .lit (.int .i64 0)], [], places) :=
  ⟨[], by kernel_rfl⟩

set_option maxRecDepth 100000 in
theorem dateMoments_lifted (os : Os) (started : os.Started) (H : Type) (enc : TypeId × Value → H) (F : Stop.Interp) :
    ReturnsInHanded {} Tryd.checked os 5 .any ((OpenSpec.ofChange Rows.dateMomentsSpec).preRow enc Tryd.prog Tryd.f5 Rows.dateMomentsRow.domain false Rows.dateMomentsRow.laid) (((OpenSpec.ofChange Rows.dateMomentsSpec).at F).post enc Tryd.prog Tryd.f5 false true false false) := by
  obtain ⟨places, hx⟩ := dateMoments_reads os enc
  refine returnsInHanded_of_row (C := Tryd.checked) (s := OpenSpec.ofChange Rows.dateMomentsSpec) own started (by kernel_rfl) Tryd.func5
    (witness_row_at (enc := enc) (C := Tryd.checked) false (laidWorld os) #[.int .i64 0, .int .i64 0] rfl (by kernel_rfl) (by kernel_rfl) (by kernel_rfl)
      (OpenSpec.preRow_of_cond 8 hx (by kernel_rfl) (fun k hk => by cases hk) (by kernel_rfl) (dateMoments_laid_met os))) ?_
  intro W base args ds gs before hval hW _ _ _ hL _ _
  exact dateMoments_contract H enc W base args ds gs before hval hW hL

theorem dateMoments_said : Rows.DateMomentsSaid :=
  OpenClaim.holds_of_cond 5 Tryd.f5 rfl rfl rfl rfl rfl rfl rfl ⟨rfl, rfl, rfl, rfl, rfl⟩ rfl rfl rfl rfl rfl (by kernel_rfl) Tryd.func5 (by kernel_rfl)
    (of_decide_eq_true (by kernel_rfl)) (by unfold Func.isWrapper; first | (rw [if_pos (by decide +kernel)]; kernel_rfl) | (rw [if_neg (by decide +kernel)]; exact ⟨rfl, rfl⟩))
    (fun os started H enc _ F => by rw [OpenClaim.pre_eq_preRow]; exact dateMoments_lifted os started H enc F)

theorem dateMoments_plain (f : FuncId) (fn : Func) (hf : Tryd.pinned.checked.prog.funcNamed "jetway/jetwaylaw03.DateMoments" = some f) (hfn : Tryd.pinned.checked.prog.funcs[f]? = some fn) :
    false = Tryd.pinned.checked.prog.looks [] ∧ ∀ (j : Nat) t, fn.params[j]? = some t → Tryd.pinned.checked.prog.wantsStandIn t = false := by
  obtain rfl : f = 5 := Option.some.inj ((show Tryd.prog.funcNamed "jetway/jetwaylaw03.DateMoments" = some 5 by kernel_rfl).symm.trans hf) |>.symm
  obtain rfl : fn = Tryd.f5 := (Option.some.inj (Tryd.func5.symm.trans hfn)).symm
  refine ⟨by kernel_rfl, fun j t ht => ?_⟩
  rw [Tryd.params5] at ht
  have hm := Array.mem_of_getElem? ht
  obtain rfl : t = 3 := by simpa using hm
  exact (show Tryd.prog.wantsStandIn 3 = false by kernel_rfl)

/-- The card of DateMoments. -/
theorem dateMoments_holds : Rows.DateMomentsCardSaid :=
  Claim7.holds_tied_plain_at .later [] _ _ _ _ dateMoments_said (fun _ h => by cases h) (by kernel_rfl) (fun _ h => by cases h) dateMoments_row_tie rfl ⟨rfl, rfl⟩ (by kernel_rfl) rfl dateMoments_plain (by kernel_rfl)
#print axioms dateMoments_holds

end Go.Proofs.YtgmcmidddhpbcaaDoor
