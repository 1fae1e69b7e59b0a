/- DateBack, for every input: each day and each minute is read back from its text, and each text that is read is the one that is told; the one condition is the card's: the table of the months' lengths is as the program's text lays it. -/
import Derived.Test.YtgmcmidddhpbcaaDoorAwake
namespace Go.Proofs.YtgmcmidddhpbcaaDoor
open Go.ChangeShapes Go.WideShapes Go.ChangeAt Go.RowKit
set_option linter.unusedVariables false

set_option maxHeartbeats 4000000 in
theorem back_core (w : World) (hw : Dt.Tab w) (n : Int) (s t c : ByteArray) (te ce d m : Int) (dok mok : Bool)
    (HT : Hid (∀ x w, x = n → Dt.Tab w → Calls Tryd.prog 9 #[.int .i64 x] w fun e w' => e = .returned (.tuple #[.string t, .int .i64 te]) ∧ Below w.heap.size w w'))
    (HC : Hid (∀ x w, x = n → Calls Tryd.prog 11 #[.int .i64 x] w fun e w' => e = .returned (.tuple #[.string c, .int .i64 ce]) ∧ Below w.heap.size w w'))
    (HR : Hid (∀ x w, x = s → Dt.Tab w → Calls Tryd.prog 15 #[.string x] w fun e w' => e = .returned (.tuple #[.int .i64 d, .bool dok]) ∧ Below w.heap.size w w'))
    (HM : Hid (∀ x w, x = s → Calls Tryd.prog 17 #[.string x] w fun e w' => e = .returned (.tuple #[.int .i64 m, .bool mok]) ∧ Below w.heap.size w w'))
    (HT2 : Hid (te = 0 → ∀ x w, x = t → Dt.Tab w → Calls Tryd.prog 15 #[.string x] w fun e w' => e = .returned (.tuple #[.int .i64 n, .bool true]) ∧ Below w.heap.size w w'))
    (HC2 : Hid (ce = 0 → ∀ x w, x = c → Calls Tryd.prog 17 #[.string x] w fun e w' => e = .returned (.tuple #[.int .i64 n, .bool true]) ∧ Below w.heap.size w w'))
    (HR2 : Hid (dok = true → ∀ x w, x = d → Dt.Tab w → Calls Tryd.prog 9 #[.int .i64 x] w fun e w' => e = .returned (.tuple #[.string s, .int .i64 0]) ∧ Below w.heap.size w w'))
    (HM2 : Hid (mok = true → ∀ x w, x = m → Calls Tryd.prog 11 #[.int .i64 x] w fun e w' => e = .returned (.tuple #[.string s, .int .i64 0]) ∧ Below w.heap.size w w'))
    (zt : te = 0 → t.size = 5) (zc : ce = 0 → c.size = 4) (ht : te = 0 ∨ te = 1) (hc : ce = 0 ∨ ce = 1) :
    Calls Tryd.prog 6 #[.int .i64 n, .string s] w fun e w' => e = .returned (.bool true) ∧ Below w.heap.size w w' := by
  have HW := Lib.hid hw
  have hb0 := Below.refl w.heap.size w
  clear hw
  rcases ht with rfl | rfl <;> rcases hc with rfl | rfl <;> cases dok <;> cases mok
  all_goals first | have z1 := zt rfl | skip
  all_goals first | have z2 := zc rfl | skip
  all_goals clear zt zc
  all_goals go_enter Tryd.func6, Tryd.ntmps6
  all_goals go_wp2_with (first
    | (go_at_call 8; refine (awake_any _ HW.out).mono ?_; rintro e w1 ⟨rfl, hb1⟩; replace hb0 := hb1; clear hb1)
    | (go_at_call 9; refine (HT.out _ _ (by with_reducible rfl) (HW.out.below hb0)).mono ?_; rintro e w2 ⟨rfl, hb2⟩; replace hb0 := hb0.trans (hb2.mono hb0.size); clear hb2)
    | (go_at_call 11; refine (HC.out _ _ (by with_reducible rfl)).mono ?_; rintro e w2 ⟨rfl, hb2⟩; replace hb0 := hb0.trans (hb2.mono hb0.size); clear hb2)
    | (go_at_call 15; refine (HR.out _ _ (by with_reducible rfl) (HW.out.below hb0)).mono ?_; rintro e w2 ⟨rfl, hb2⟩; replace hb0 := hb0.trans (hb2.mono hb0.size); clear hb2)
    | (go_at_call 17; refine (HM.out _ _ (by with_reducible rfl)).mono ?_; rintro e w2 ⟨rfl, hb2⟩; replace hb0 := hb0.trans (hb2.mono hb0.size); clear hb2)
    | (go_at_call 15; refine (HT2.out (by trivial) _ _ (by with_reducible rfl) (HW.out.below hb0)).mono ?_; rintro e w2 ⟨rfl, hb2⟩; replace hb0 := hb0.trans (hb2.mono hb0.size); clear hb2)
    | (go_at_call 17; refine (HC2.out (by trivial) _ _ (by with_reducible rfl)).mono ?_; rintro e w2 ⟨rfl, hb2⟩; replace hb0 := hb0.trans (hb2.mono hb0.size); clear hb2)
    | (go_at_call 9; refine (HR2.out (by trivial) _ _ (by with_reducible rfl) (HW.out.below hb0)).mono ?_; rintro e w2 ⟨rfl, hb2⟩; replace hb0 := hb0.trans (hb2.mono hb0.size); clear hb2)
    | (go_at_call 11; refine (HM2.out (by trivial) _ _ (by with_reducible rfl)).mono ?_; rintro e w2 ⟨rfl, hb2⟩; replace hb0 := hb0.trans (hb2.mono hb0.size); clear hb2))
  all_goals go_ret
  all_goals exact ⟨by first | rfl | simp [*], hb0⟩
theorem back_walk (w : World) (hw : Dt.Tab w) (n : Int) (hn : (Lit.int .i64 n).wf = true) (s : ByteArray) (hs : s.size ≤ maxLen) :
    Calls Tryd.prog 6 #[.int .i64 n, .string s] w fun e w' => e = .returned (.bool true) ∧ Below w.heap.size w w' := by
  clear hn
  obtain ⟨t, te, t1, t2, t3, t4⟩ : ∃ (t : ByteArray) (te : Int), (∀ w, Dt.Tab w → Calls Tryd.prog 9 #[.int .i64 n] w fun e w' => e = .returned (.tuple #[.string t, .int .i64 te]) ∧ Below w.heap.size w w') ∧
      (te = 0 → ∀ w, Dt.Tab w → Calls Tryd.prog 15 #[.string t] w fun e w' => e = .returned (.tuple #[.int .i64 n, .bool true]) ∧ Below w.heap.size w w') ∧ (te = 0 → t.size = 5) ∧ (te = 0 ∨ te = 1) := by
    by_cases h : 0 ≤ n ∧ n < 366
    · obtain ⟨k, rfl⟩ := Int.eq_ofNat_of_zero_le h.1
      exact ⟨_, _, fun w hw => text_yes k w hw (by omega), fun _ w hw => read_yes k w hw (by omega), fun _ => Dt.txt_size (by omega), Or.inl rfl⟩
    · exact ⟨_, _, fun w _ => (text_no n w h).mono fun _ _ h => ⟨h.1, h.2 ▸ Below.refl _ _⟩, fun h => absurd h (by decide), fun h => absurd h (by decide), Or.inr rfl⟩
  obtain ⟨c, ce, c1, c2, c3, c4⟩ : ∃ (c : ByteArray) (ce : Int), (∀ w, Calls Tryd.prog 11 #[.int .i64 n] w fun e w' => e = .returned (.tuple #[.string c, .int .i64 ce]) ∧ Below w.heap.size w w') ∧
      (ce = 0 → ∀ w, Calls Tryd.prog 17 #[.string c] w fun e w' => e = .returned (.tuple #[.int .i64 n, .bool true]) ∧ Below w.heap.size w w') ∧ (ce = 0 → c.size = 4) ∧ (ce = 0 ∨ ce = 1) := by
    by_cases h : 0 ≤ n ∧ n < 1440
    · obtain ⟨k, rfl⟩ := Int.eq_ofNat_of_zero_le h.1
      exact ⟨_, _, fun w => clock_yes k w (by omega), fun _ w => readClock_yes k w (by omega), fun _ => rfl, Or.inl rfl⟩
    · exact ⟨_, _, fun w => (clock_no n w h).mono fun _ _ h => ⟨h.1, h.2 ▸ Below.refl _ _⟩, fun h => absurd h (by decide), fun h => absurd h (by decide), Or.inr rfl⟩
  obtain ⟨d, dok, d1, d2⟩ : ∃ (d : Int) (dok : Bool), (∀ w, Dt.Tab w → Calls Tryd.prog 15 #[.string s] w fun e w' => e = .returned (.tuple #[.int .i64 d, .bool dok]) ∧ Below w.heap.size w w') ∧
      (dok = true → ∀ w, Dt.Tab w → Calls Tryd.prog 9 #[.int .i64 d] w fun e w' => e = .returned (.tuple #[.string s, .int .i64 0]) ∧ Below w.heap.size w w') := by
    by_cases h : ∃ d, d < 366 ∧ s = Dt.txt d
    · obtain ⟨d, hd, rfl⟩ := h
      exact ⟨_, _, fun w hw => read_yes d w hw hd, fun _ w hw => text_yes d w hw hd⟩
    · exact ⟨_, _, fun w hw => read_no s w hw hs fun d hd e => h ⟨d, hd, e⟩, fun h => by cases h⟩
  obtain ⟨m, mok, m1, m2⟩ : ∃ (m : Int) (mok : Bool), (∀ w, Calls Tryd.prog 17 #[.string s] w fun e w' => e = .returned (.tuple #[.int .i64 m, .bool mok]) ∧ Below w.heap.size w w') ∧
      (mok = true → ∀ w, Calls Tryd.prog 11 #[.int .i64 m] w fun e w' => e = .returned (.tuple #[.string s, .int .i64 0]) ∧ Below w.heap.size w w') := by
    by_cases h : ∃ d, d < 1440 ∧ s = Dt.clk d
    · obtain ⟨d, hd, rfl⟩ := h
      exact ⟨_, _, fun w => readClock_yes d w hd, fun _ w => clock_yes d w hd⟩
    · exact ⟨_, _, fun w => readClock_no s w hs fun d hd e => h ⟨d, hd, e⟩, fun h => by cases h⟩
  exact back_core w hw n s t c te ce d m dok mok (fun x w hx hw => by subst hx; exact t1 w hw) (fun x w hx => by subst hx; exact c1 w) (fun x w hx hw => by subst hx; exact d1 w hw) (fun x w hx => by subst hx; exact m1 w)
    (fun h x w hx hw => by subst hx; exact t2 h w hw) (fun h x w hx => by subst hx; exact c2 h w) (fun h x w hx hw => by subst hx; exact d2 h w hw) (fun h x w hx => by subst hx; exact m2 h w) t3 c3 t4 c4

theorem dateBack_contract (H : Type) (enc : TypeId × Value → H) (W : World) (base : Nat) (args : Array Value) (ds gs : List (DataW H)) (before : List MemPlace)
    (hval0 : ∀ (j : Nat) t v, Tryd.f6.params[j]? = some t → args[j]? = some v → Value.okWide Tryd.prog W .any base t v)
    (hW : DataW.Whole enc Tryd.prog Tryd.f6.params.toList Rows.dateBackSpec.vars false W args.toList ds gs before) (hL : laidMetH Tryd.prog Rows.dateBackRow.laid W) :
    Calls Tryd.prog 6 args W fun e W' => ∃ v, e = .returned v ∧ Rows.dateBackSpec.post enc Tryd.prog Tryd.f6 false true false false W args v W' := by
  have hT : Dt.Tab W := table hL
  have hval : ∀ (j : Nat) t v, Tryd.f6.params[j]? = some t → args[j]? = some v → Value.okWide Tryd.prog W .any base t v := hval0
  have hW' := hW
  obtain ⟨p, q, hA0, hV, rfl, hfz, hnd⟩ := hW
  have hA : DataW.TrodAll enc Tryd.prog W 0 (fun _ => true) true Tryd.f6.params.toList args.toList ds p := hA0
  rw [Tryd.params6] at hA hval
  obtain ⟨v0, vs0, d0, ds0, p0, q0, hargs, rfl, rfl, h0, r0⟩ := trodAll_cons hA
  obtain ⟨v1, vs1, d1, ds1, p1, q1, rfl, rfl, rfl, h1, r1⟩ := trodAll_cons r0
  obtain ⟨rfl, rfl, rfl⟩ := trodAll_nil r1
  obtain rfl : args = #[v0, v1] := by cases args; simp_all
  obtain ⟨rfl, rfl⟩ := trodVars_none hV
  obtain ⟨a0, rfl, rfl, rfl, w0⟩ := open_int Tryd.underlying3 (hval 0 3 v0 rfl rfl) h0
  obtain ⟨a1, rfl, rfl, rfl, w1⟩ := Go.ChangeMaps.open_string Tryd.underlying9 (hval 1 9 v1 rfl rfl) h1
  clear hA0 hval0
  refine (back_walk W hT a0 w0 a1 w1).mono fun e W' ⟨he, bel⟩ => ?_
  subst he
  exact ⟨_, rfl, _, _, _, [], _, [], hW', trodAll_mk1 (shut_bool Tryd.underlying4 _), (trodAll_cons_mk (shut_int Tryd.underlying3 w0) (trodAll_cons_mk (Go.ChangeMaps.shut_string Tryd.underlying9 w1) (trodAll_mk0))), rfl, bel.frame _, fun h => by cases h⟩

theorem dateBack_laid_met (os : Os) : laidMet Tryd.prog Rows.dateBackRow.laid ((laidWorld os).forCall (fun _ _ => 0) ⟨#[], #[.int .i64 0, .string ⟨#[]⟩], []⟩).memory :=
  laidMet_of_run' 8 (by kernel_rfl) (by kernel_rfl)
theorem dateBack_reads (os : Os) {H : Type} (enc : TypeId × Value → H) : ∃ places, DataW.whole enc Tryd.prog ((laidWorld os).forCall (fun _ _ => 0) ⟨#[], #[.int .i64 0, .string ⟨#[]⟩], []⟩).memory Tryd.f6.params.toList Rows.dateBackSpec.vars false #[Value.int .i64 0, Value.string ⟨#[]⟩].toList 8 = some ([.lit (.int .i64 0), .lit (.string [])], [], places) :=
  ⟨[], by kernel_rfl⟩

set_option maxRecDepth 100000 in
theorem dateBack_lifted (os : Os) (started : os.Started) (H : Type) (enc : TypeId × Value → H) (F : Stop.Interp) :
    ReturnsInHanded {} Tryd.checked os 6 .any ((OpenSpec.ofChange Rows.dateBackSpec).preRow enc Tryd.prog Tryd.f6 Rows.dateBackRow.domain false Rows.dateBackRow.laid) (((OpenSpec.ofChange Rows.dateBackSpec).at F).post enc Tryd.prog Tryd.f6 false true false false) := by
  obtain ⟨places, hx⟩ := dateBack_reads os enc
  refine returnsInHanded_of_row (C := Tryd.checked) (s := OpenSpec.ofChange Rows.dateBackSpec) own started (by kernel_rfl) Tryd.func6
    (witness_row_at (enc := enc) (C := Tryd.checked) false (laidWorld os) #[.int .i64 0, .string ⟨#[]⟩] rfl (by kernel_rfl) (by kernel_rfl) (by kernel_rfl)
      (OpenSpec.preRow_of_cond 8 hx (by kernel_rfl) (fun k hk => by cases hk) (by kernel_rfl) (dateBack_laid_met os))) ?_
  intro W base args ds gs before hval hW _ _ _ hL _ _
  exact dateBack_contract H enc W base args ds gs before hval hW hL

theorem dateBack_said : Rows.DateBackSaid :=
  OpenClaim.holds_of_cond 6 Tryd.f6 rfl rfl rfl rfl rfl rfl rfl ⟨rfl, rfl, rfl, rfl, rfl⟩ rfl rfl rfl rfl rfl (by kernel_rfl) Tryd.func6 (by kernel_rfl)
    (of_decide_eq_true (by kernel_rfl)) (by unfold Func.isWrapper; first | (rw [if_pos (by decide +kernel)]; kernel_rfl) | (rw [if_neg (by decide +kernel)]; exact ⟨rfl, rfl⟩))
    (fun os started H enc _ F => by rw [OpenClaim.pre_eq_preRow]; exact dateBack_lifted os started H enc F)

theorem dateBack_plain (f : FuncId) (fn : Func) (hf : Tryd.pinned.checked.prog.funcNamed "jetway/jetwaylaw03.DateBack" = some f) (hfn : Tryd.pinned.checked.prog.funcs[f]? = some fn) :
    false = Tryd.pinned.checked.prog.looks [] ∧ ∀ (j : Nat) t, fn.params[j]? = some t → Tryd.pinned.checked.prog.wantsStandIn t = false := by
  obtain rfl : f = 6 := Option.some.inj ((show Tryd.prog.funcNamed "jetway/jetwaylaw03.DateBack" = some 6 by kernel_rfl).symm.trans hf) |>.symm
  obtain rfl : fn = Tryd.f6 := (Option.some.inj (Tryd.func6.symm.trans hfn)).symm
  refine ⟨by kernel_rfl, fun j t ht => ?_⟩
  rw [Tryd.params6] at ht
  have hm := Array.mem_of_getElem? ht
  have ho : t = 3 ∨ t = 9 := by simpa using hm
  rcases ho with rfl | rfl
  · exact (show Tryd.prog.wantsStandIn 3 = false by kernel_rfl)
  · exact (show Tryd.prog.wantsStandIn 9 = false by kernel_rfl)

/-- The card of DateBack. -/
theorem dateBack_holds : Rows.DateBackCardSaid :=
  Claim7.holds_tied_plain_at .later [] _ _ _ _ dateBack_said (fun _ h => by cases h) (by kernel_rfl) (fun _ h => by cases h) dateBack_row_tie rfl ⟨rfl, rfl⟩ (by kernel_rfl) rfl dateBack_plain (by kernel_rfl)
#print axioms dateBack_holds

end Go.Proofs.YtgmcmidddhpbcaaDoor
