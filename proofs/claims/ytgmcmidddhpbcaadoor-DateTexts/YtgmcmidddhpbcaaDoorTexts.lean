/- DateTexts, for every input: each number's day, weekday and time are told just as the document tells them, or refused; the one condition is the card's: the table of the months' lengths is as the program's text lays it. -/
import Derived.Test.YtgmcmidddhpbcaaDoorAwake
namespace Go.Proofs.YtgmcmidddhpbcaaDoor
open Go.ChangeShapes Go.WideShapes Go.ChangeAt Go.RowKit
set_option linter.unusedVariables false

theorem weekdays_any (n : Int) : ∃ v : Int, (∀ w, Calls Tryd.prog 13 #[.int .i64 n] w fun e w' => e = .returned (.int .i64 v) ∧ w = w') ∧ (∀ w, Calls Tryd.prog 14 #[.int .i64 n] w fun e w' => e = .returned (.int .i64 v) ∧ w = w') := by
  by_cases h : 0 ≤ n ∧ n < 366
  · exact ⟨_, fun w => weekday_yes n w h.1 h.2, fun w => rweekday_yes n w h.1 h.2⟩
  · exact ⟨_, fun w => weekday_no n w h, fun w => rweekday_no n w h⟩
theorem texts_any (n : Int) : ∃ (t : ByteArray) (v : Int), (∀ w, Dt.Tab w → Calls Tryd.prog 9 #[.int .i64 n] w fun e w' => e = .returned (.tuple #[.string t, .int .i64 v]) ∧ Below w.heap.size w w') ∧
    (∀ w, Calls Tryd.prog 10 #[.int .i64 n] w fun e w' => e = .returned (.tuple #[.string t, .int .i64 v]) ∧ Below w.heap.size w w') ∧ 0 ≤ v ∧ v ≤ 1 := by
  by_cases h : 0 ≤ n ∧ n < 366
  · obtain ⟨k, rfl⟩ := Int.eq_ofNat_of_zero_le h.1
    exact ⟨_, _, fun w hw => text_yes k w hw (by omega), fun w => rtext_yes k w (by omega), by decide, by decide⟩
  · exact ⟨_, _, fun w _ => (text_no n w h).mono fun _ _ h => ⟨h.1, h.2 ▸ Below.refl _ _⟩, fun w => (rtext_no n w h).mono fun _ _ h => ⟨h.1, h.2 ▸ Below.refl _ _⟩, by decide, by decide⟩
theorem clocks_any (n : Int) : ∃ (t : ByteArray) (v : Int), (∀ w, Calls Tryd.prog 11 #[.int .i64 n] w fun e w' => e = .returned (.tuple #[.string t, .int .i64 v]) ∧ Below w.heap.size w w') ∧
    (∀ w, Calls Tryd.prog 12 #[.int .i64 n] w fun e w' => e = .returned (.tuple #[.string t, .int .i64 v]) ∧ Below w.heap.size w w') ∧ 0 ≤ v ∧ v ≤ 1 := by
  by_cases h : 0 ≤ n ∧ n < 1440
  · obtain ⟨k, rfl⟩ := Int.eq_ofNat_of_zero_le h.1
    exact ⟨_, _, fun w => clock_yes k w (by omega), fun w => rclock_yes k w (by omega), by decide, by decide⟩
  · exact ⟨_, _, fun w => (clock_no n w h).mono fun _ _ h => ⟨h.1, h.2 ▸ Below.refl _ _⟩, fun w => (rclock_no n w h).mono fun _ _ h => ⟨h.1, h.2 ▸ Below.refl _ _⟩, by decide, by decide⟩
theorem texts_walk (w : World) (hw : Dt.Tab w) (n : Int) (hn : (Lit.int .i64 n).wf = true) :
    Calls Tryd.prog 3 #[.int .i64 n] w fun e w' => e = .returned (.bool true) ∧ Below w.heap.size w w' := by
  clear hn
  have HW := Lib.hid hw
  clear hw
  obtain ⟨v, k1, k2⟩ := weekdays_any n
  obtain ⟨t, x, k3, k4, x0, x1⟩ := texts_any n
  obtain ⟨c, y, k5, k6, y0, y1⟩ := clocks_any n
  have H1 := Lib.hid k1
  have H2 := Lib.hid k2
  have H3 := Lib.hid k3
  have H4 := Lib.hid k4
  have H5 := Lib.hid k5
  have H6 := Lib.hid k6
  clear k1 k2 k3 k4 k5 k6
  go_enter Tryd.func3, Tryd.ntmps3
  go_wp2_with (first
    | (go_at_call 8; refine (awake_any _ HW.out).mono ?_; rintro e w1 ⟨rfl, hb1⟩)
    | (go_at_call 9; refine (H3.out _ (HW.out.below hb1)).mono ?_; rintro e w2 ⟨rfl, hb2⟩)
    | (go_at_call 10; refine (H4.out _).mono ?_; rintro e w3 ⟨rfl, hb3⟩)
    | (go_at_call 11; refine (H5.out _).mono ?_; rintro e w4 ⟨rfl, hb4⟩)
    | (go_at_call 12; refine (H6.out _).mono ?_; rintro e w5 ⟨rfl, hb5⟩)
    | (go_at_call 13; refine (H1.out _).mono ?_; rintro e w' ⟨rfl, rfl⟩)
    | (go_at_call 14; refine (H2.out _).mono ?_; rintro e w' ⟨rfl, rfl⟩))
  go_ret
  have b2 := hb1.trans (hb2.mono hb1.size)
  have b3 := b2.trans (hb3.mono b2.size)
  have b4 := b3.trans (hb4.mono b3.size)
  exact ⟨by simp, b4.trans (hb5.mono b4.size)⟩

theorem dateTexts_contract (H : Type) (enc : TypeId × Value → H) (W : World) (base : Nat) (args : Array Value) (ds gs : List (DataW H)) (before : List MemPlace)
    (hval0 : ∀ (j : Nat) t v, Tryd.f3.params[j]? = some t → args[j]? = some v → Value.okWide Tryd.prog W .any base t v)
    (hW : DataW.Whole enc Tryd.prog Tryd.f3.params.toList Rows.dateTextsSpec.vars false W args.toList ds gs before) (hL : laidMetH Tryd.prog Rows.dateTextsRow.laid W) :
    Calls Tryd.prog 3 args W fun e W' => ∃ v, e = .returned v ∧ Rows.dateTextsSpec.post enc Tryd.prog Tryd.f3 false true false false W args v W' := by
  have hT : Dt.Tab W := table hL
  have hval : ∀ (j : Nat) t v, Tryd.f3.params[j]? = some t → args[j]? = some v → Value.okWide Tryd.prog W .any base t v := hval0
  have hW' := hW
  obtain ⟨p, q, hA0, hV, rfl, hfz, hnd⟩ := hW
  have hA : DataW.TrodAll enc Tryd.prog W 0 (fun _ => true) true Tryd.f3.params.toList args.toList ds p := hA0
  rw [Tryd.params3] at hA hval
  obtain ⟨v0, vs0, d0, ds0, p0, q0, hargs, rfl, rfl, h0, r0⟩ := trodAll_cons hA
  obtain ⟨rfl, rfl, rfl⟩ := trodAll_nil r0
  obtain rfl : args = #[v0] := by cases args; simp_all
  obtain ⟨rfl, rfl⟩ := trodVars_none hV
  obtain ⟨a0, rfl, rfl, rfl, w0⟩ := open_int Tryd.underlying3 (hval 0 3 v0 rfl rfl) h0
  clear hA0 hval0
  refine (texts_walk W hT a0 w0).mono fun e W' ⟨he, bel⟩ => ?_
  subst he
  exact ⟨_, rfl, _, _, _, [], _, [], hW', trodAll_mk1 (shut_bool Tryd.underlying4 _), (trodAll_cons_mk (shut_int Tryd.underlying3 w0) (trodAll_mk0)), rfl, bel.frame _, fun h => by cases h⟩

theorem dateTexts_laid_met (os : Os) : laidMet Tryd.prog Rows.dateTextsRow.laid ((laidWorld os).forCall (fun _ _ => 0) ⟨#[], #[.int .i64 0], []⟩).memory :=
  laidMet_of_run' 8 (by kernel_rfl) (by kernel_rfl)
theorem dateTexts_reads (os : Os) {H : Type} (enc : TypeId × Value → H) : ∃ places, DataW.whole enc Tryd.prog ((laidWorld os).forCall (fun _ _ => 0) ⟨#[], #[.int .i64 0], []⟩).memory Tryd.f3.params.toList Rows.dateTextsSpec.vars false #[Value.int .i64 0].toList 8 = some ([.lit (.int .i64 0)], [], places) :=
  ⟨[], by kernel_rfl⟩

set_option maxRecDepth 100000 in
theorem dateTexts_lifted (os : Os) (started : os.Started) (H : Type) (enc : TypeId × Value → H) (F : Stop.Interp) :
    ReturnsInHanded {} Tryd.checked os 3 .any ((OpenSpec.ofChange Rows.dateTextsSpec).preRow enc Tryd.prog Tryd.f3 Rows.dateTextsRow.domain false Rows.dateTextsRow.laid) (((OpenSpec.ofChange Rows.dateTextsSpec).at F).post enc Tryd.prog Tryd.f3 false true false false) := by
  obtain ⟨places, hx⟩ := dateTexts_reads os enc
  refine returnsInHanded_of_row (C := Tryd.checked) (s := OpenSpec.ofChange Rows.dateTextsSpec) own started (by kernel_rfl) Tryd.func3
    (witness_row_at (enc := enc) (C := Tryd.checked) false (laidWorld os) #[.int .i64 0] rfl (by kernel_rfl) (by kernel_rfl) (by kernel_rfl)
      (OpenSpec.preRow_of_cond 8 hx (by kernel_rfl) (fun k hk => by cases hk) (by kernel_rfl) (dateTexts_laid_met os))) ?_
  intro W base args ds gs before hval hW _ _ _ hL _ _
  exact dateTexts_contract H enc W base args ds gs before hval hW hL

theorem dateTexts_said : Rows.DateTextsSaid :=
  OpenClaim.holds_of_cond 3 Tryd.f3 rfl rfl rfl rfl rfl rfl rfl ⟨rfl, rfl, rfl, rfl, rfl⟩ rfl rfl rfl rfl rfl (by kernel_rfl) Tryd.func3 (by kernel_rfl)
    (of_decide_eq_true (by kernel_rfl)) (by unfold Func.isWrapper; first | (rw [if_pos (by decide +kernel)]; kernel_rfl) | (rw [if_neg (by decide +kernel)]; exact ⟨rfl, rfl⟩))
    (fun os started H enc _ F => by rw [OpenClaim.pre_eq_preRow]; exact dateTexts_lifted os started H enc F)

theorem dateTexts_plain (f : FuncId) (fn : Func) (hf : Tryd.pinned.checked.prog.funcNamed "jetway/jetwaylaw03.DateTexts" = some f) (hfn : Tryd.pinned.checked.prog.funcs[f]? = some fn) :
    false = Tryd.pinned.checked.prog.looks [] ∧ ∀ (j : Nat) t, fn.params[j]? = some t → Tryd.pinned.checked.prog.wantsStandIn t = false := by
  obtain rfl : f = 3 := Option.some.inj ((show Tryd.prog.funcNamed "jetway/jetwaylaw03.DateTexts" = some 3 by kernel_rfl).symm.trans hf) |>.symm
  obtain rfl : fn = Tryd.f3 := (Option.some.inj (Tryd.func3.symm.trans hfn)).symm
  refine ⟨by kernel_rfl, fun j t ht => ?_⟩
  rw [Tryd.params3] at ht
  have hm := Array.mem_of_getElem? ht
  obtain rfl : t = 3 := by simpa using hm
  exact (show Tryd.prog.wantsStandIn 3 = false by kernel_rfl)

/-- The card of DateTexts. -/
theorem dateTexts_holds : Rows.DateTextsCardSaid :=
  Claim7.holds_tied_plain_at .later [] _ _ _ _ dateTexts_said (fun _ h => by cases h) (by kernel_rfl) (fun _ h => by cases h) dateTexts_row_tie rfl ⟨rfl, rfl⟩ (by kernel_rfl) rfl dateTexts_plain (by kernel_rfl)
#print axioms dateTexts_holds

end Go.Proofs.YtgmcmidddhpbcaaDoor
