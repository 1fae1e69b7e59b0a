/- DateReads, for every input: any text is read as just the document's day and time, or as none; the one condition is the card's: the table of the months' lengths is as the program's text lays it. -/
import Derived.Test.YtgmcmidddhpbcaaDoorAwake
namespace Go.Proofs.YtgmcmidddhpbcaaDoor
open Go.ChangeShapes Go.WideShapes Go.ChangeAt Go.RowKit
set_option linter.unusedVariables false

theorem reads_any (s : ByteArray) (hs : s.size ≤ maxLen) : ∃ (v : Int) (b : Bool), (∀ w, Dt.Tab w → Calls Tryd.prog 15 #[.string s] w fun e w' => e = .returned (.tuple #[.int .i64 v, .bool b]) ∧ Below w.heap.size w w') ∧
    (∀ w, Calls Tryd.prog 16 #[.string s] w fun e w' => e = .returned (.tuple #[.int .i64 v, .bool b]) ∧ Below w.heap.size w w') := by
  by_cases h : ∃ d, d < 366 ∧ s = Dt.txt d
  · obtain ⟨d, hd, rfl⟩ := h
    exact ⟨_, _, fun w hw => read_yes d w hw hd, fun w => rread_yes d w hd⟩
  · have h' : ∀ d < 366, s ≠ Dt.txt d := fun d hd e => h ⟨d, hd, e⟩
    exact ⟨_, _, fun w hw => read_no s w hw hs h', fun w => rread_no s w hs h'⟩
theorem readClocks_any (s : ByteArray) (hs : s.size ≤ maxLen) : ∃ (v : Int) (b : Bool), (∀ w, Calls Tryd.prog 17 #[.string s] w fun e w' => e = .returned (.tuple #[.int .i64 v, .bool b]) ∧ Below w.heap.size w w') ∧
    (∀ w, Calls Tryd.prog 18 #[.string s] w fun e w' => e = .returned (.tuple #[.int .i64 v, .bool b]) ∧ Below w.heap.size w w') := by
  by_cases h : ∃ d, d < 1440 ∧ s = Dt.clk d
  · obtain ⟨d, hd, rfl⟩ := h
    exact ⟨_, _, fun w => readClock_yes d w hd, fun w => rreadClock_yes d w hd⟩
  · have h' : ∀ d < 1440, s ≠ Dt.clk d := fun d hd e => h ⟨d, hd, e⟩
    exact ⟨_, _, fun w => readClock_no s w hs h', fun w => rreadClock_no s w hs h'⟩
theorem reads_walk (w : World) (hw : Dt.Tab w) (s : ByteArray) (hs : s.size ≤ maxLen) :
    Calls Tryd.prog 4 #[.string s] w fun e w' => e = .returned (.bool true) ∧ Below w.heap.size w w' := by
  have HW := Lib.hid hw
  clear hw
  obtain ⟨x, a, k3, k4⟩ := reads_any s hs
  obtain ⟨y, b, k5, k6⟩ := readClocks_any s hs
  have H3 := Lib.hid k3
  have H4 := Lib.hid k4
  have H5 := Lib.hid k5
  have H6 := Lib.hid k6
  clear k3 k4 k5 k6 hs
  go_enter Tryd.func4, Tryd.ntmps4
  go_wp2_with (first
    | (go_at_call 8; refine (awake_any _ HW.out).mono ?_; rintro e w1 ⟨rfl, hb1⟩)
    | (go_at_call 15; refine (H3.out _ (HW.out.below hb1)).mono ?_; rintro e w2 ⟨rfl, hb2⟩)
    | (go_at_call 16; refine (H4.out _).mono ?_; rintro e w3 ⟨rfl, hb3⟩)
    | (go_at_call 17; refine (H5.out _).mono ?_; rintro e w4 ⟨rfl, hb4⟩)
    | (go_at_call 18; refine (H6.out _).mono ?_; rintro e w5 ⟨rfl, hb5⟩))
  go_ret
  have b2 := hb1.trans (hb2.mono hb1.size)
  have b3 := b2.trans (hb3.mono b2.size)
  have b4 := b3.trans (hb4.mono b3.size)
  exact ⟨by simp, b4.trans (hb5.mono b4.size)⟩

theorem dateReads_contract (H : Type) (enc : TypeId × Value → H) (W : World) (base : Nat) (args : Array Value) (ds gs : List (DataW H)) (before : List MemPlace)
    (hval0 : ∀ (j : Nat) t v, Tryd.f4.params[j]? = some t → args[j]? = some v → Value.okWide Tryd.prog W .any base t v)
    (hW : DataW.Whole enc Tryd.prog Tryd.f4.params.toList Rows.dateReadsSpec.vars false W args.toList ds gs before) (hL : laidMetH Tryd.prog Rows.dateReadsRow.laid W) :
    Calls Tryd.prog 4 args W fun e W' => ∃ v, e = .returned v ∧ Rows.dateReadsSpec.post enc Tryd.prog Tryd.f4 false true false false W args v W' := by
  have hT : Dt.Tab W := table hL
  have hval : ∀ (j : Nat) t v, Tryd.f4.params[j]? = some t → args[j]? = some v → Value.okWide Tryd.prog W .any base t v := hval0
  have hW' := hW
  obtain ⟨p, q, hA0, hV, rfl, hfz, hnd⟩ := hW
  have hA : DataW.TrodAll enc Tryd.prog W 0 (fun _ => true) true Tryd.f4.params.toList args.toList ds p := hA0
  rw [Tryd.params4] at hA hval
  obtain ⟨v0, vs0, d0, ds0, p0, q0, hargs, rfl, rfl, h0, r0⟩ := trodAll_cons hA
  obtain ⟨rfl, rfl, rfl⟩ := trodAll_nil r0
  obtain rfl : args = #[v0] := by cases args; simp_all
  obtain ⟨rfl, rfl⟩ := trodVars_none hV
  obtain ⟨a0, rfl, rfl, rfl, w0⟩ := Go.ChangeMaps.open_string Tryd.underlying9 (hval 0 9 v0 rfl rfl) h0
  clear hA0 hval0
  refine (reads_walk W hT a0 w0).mono fun e W' ⟨he, bel⟩ => ?_
  subst he
  exact ⟨_, rfl, _, _, _, [], _, [], hW', trodAll_mk1 (shut_bool Tryd.underlying4 _), (trodAll_cons_mk (Go.ChangeMaps.shut_string Tryd.underlying9 w0) (trodAll_mk0)), rfl, bel.frame _, fun h => by cases h⟩

theorem dateReads_laid_met (os : Os) : laidMet Tryd.prog Rows.dateReadsRow.laid ((laidWorld os).forCall (fun _ _ => 0) ⟨#[], #[.string ⟨#[]⟩], []⟩).memory :=
  laidMet_of_run' 8 (by kernel_rfl) (by kernel_rfl)
theorem dateReads_reads (os : Os) {H : Type} (enc : TypeId × Value → H) : ∃ places, DataW.whole enc Tryd.prog ((laidWorld os).forCall (fun _ _ => 0) ⟨#[], #[.string ⟨#[]⟩], []⟩).memory Tryd.f4.params.toList Rows.dateReadsSpec.vars false #[Value.string ⟨#[]⟩].toList 8 = some ([.lit (.string [])], [], places) :=
  ⟨[], by kernel_rfl⟩

set_option maxRecDepth 100000 in
theorem dateReads_lifted (os : Os) (started : os.Started) (H : Type) (enc : TypeId × Value → H) (F : Stop.Interp) :
    ReturnsInHanded {} Tryd.checked os 4 .any ((OpenSpec.ofChange Rows.dateReadsSpec).preRow enc Tryd.prog Tryd.f4 Rows.dateReadsRow.domain false Rows.dateReadsRow.laid) (((OpenSpec.ofChange Rows.dateReadsSpec).at F).post enc Tryd.prog Tryd.f4 false true false false) := by
  obtain ⟨places, hx⟩ := dateReads_reads os enc
  refine returnsInHanded_of_row (C := Tryd.checked) (s := OpenSpec.ofChange Rows.dateReadsSpec) own started (by kernel_rfl) Tryd.func4
    (witness_row_at (enc := enc) (C := Tryd.checked) false (laidWorld os) #[.string ⟨#[]⟩] rfl (by kernel_rfl) (by kernel_rfl) (by kernel_rfl)
      (OpenSpec.preRow_of_cond 8 hx (by kernel_rfl) (fun k hk => by cases hk) (by kernel_rfl) (dateReads_laid_met os))) ?_
  intro W base args ds gs before hval hW _ _ _ hL _ _
  exact dateReads_contract H enc W base args ds gs before hval hW hL

theorem dateReads_said : Rows.DateReadsSaid :=
  OpenClaim.holds_of_cond 4 Tryd.f4 rfl rfl rfl rfl rfl rfl rfl ⟨rfl, rfl, rfl, rfl, rfl⟩ rfl rfl rfl rfl rfl (by kernel_rfl) Tryd.func4 (by kernel_rfl)
    (of_decide_eq_true (by kernel_rfl)) (by unfold Func.isWrapper; first | (rw [if_pos (by decide +kernel)]; kernel_rfl) | (rw [if_neg (by decide +kernel)]; exact ⟨rfl, rfl⟩))
    (fun os started H enc _ F => by rw [OpenClaim.pre_eq_preRow]; exact dateReads_lifted os started H enc F)

theorem dateReads_plain (f : FuncId) (fn : Func) (hf : Tryd.pinned.checked.prog.funcNamed "jetway/jetwaylaw03.DateReads" = some f) (hfn : Tryd.pinned.checked.prog.funcs[f]? = some fn) :
    false = Tryd.pinned.checked.prog.looks [] ∧ ∀ (j : Nat) t, fn.params[j]? = some t → Tryd.pinned.checked.prog.wantsStandIn t = false := by
  obtain rfl : f = 4 := Option.some.inj ((show Tryd.prog.funcNamed "jetway/jetwaylaw03.DateReads" = some 4 by kernel_rfl).symm.trans hf) |>.symm
  obtain rfl : fn = Tryd.f4 := (Option.some.inj (Tryd.func4.symm.trans hfn)).symm
  refine ⟨by kernel_rfl, fun j t ht => ?_⟩
  rw [Tryd.params4] at ht
  have hm := Array.mem_of_getElem? ht
  obtain rfl : t = 9 := by simpa using hm
  exact (show Tryd.prog.wantsStandIn 9 = false by kernel_rfl)

/-- The card of DateReads. -/
theorem dateReads_holds : Rows.DateReadsCardSaid :=
  Claim7.holds_tied_plain_at .later [] _ _ _ _ dateReads_said (fun _ h => by cases h) (by kernel_rfl) (fun _ h => by cases h) dateReads_row_tie rfl ⟨rfl, rfl⟩ (by kernel_rfl) rfl dateReads_plain (by kernel_rfl)
#print axioms dateReads_holds

end Go.Proofs.YtgmcmidddhpbcaaDoor
