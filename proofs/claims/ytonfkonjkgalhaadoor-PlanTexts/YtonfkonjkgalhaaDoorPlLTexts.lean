/- PlanTexts, for every input: any seat is written and any text is read as the document says, and each comes back; no conditions. -/
import Derived.Test.YtonfkonjkgalhaaDoorPlTxl
namespace Go.Proofs.YtonfkonjkgalhaaDoor
open Go.ChangeShapes Go.WideShapes Go.ChangeAt Go.RowKit
set_option linter.unusedVariables false

theorem texts9_walk (w : World) (s : Pl.S) (hs : Pl.WS s) (t : ByteArray) (wt : t.size ≤ maxLen) :
    Calls Tryd.prog 3 #[Pl.sv s, .string t] w fun e w' => e = .returned (.bool true) ∧ Below w.heap.size w w' := by
  obtain ⟨_, _, h0, h1⟩ := hs
  unfold maxLen at wt
  have HT := Lib.hid (fun W => text_any s W h0 h1)
  have HR := Lib.hid (fun W => rtext_any s W h0 h1)
  have H1 := Lib.hid (fun W => read_any t W wt)
  have H2 := Lib.hid (fun W => rread_any t W wt)
  have hz : (Pl.txt s).size ≤ 9223372036854775807 := by
    cases hv : (Pl.rowT s.1 && Cd.isL s.2) with
    | false => rw [Pl.txt_none hv]; decide
    | true => have := (Pl.txt_size hv).2; omega
  have H3 := Lib.hid (fun W => read_any (Pl.txt s) W hz)
  have H4 : Hid (Pl.okOf t = true → ∀ W, Calls Tryd.prog 10 #[Pl.sv (Pl.rsOf t)] W fun e w' => e = .returned (.string t) ∧ Below W.heap.size W w') := fun ho W => by
    have := text_any (Pl.rsOf t) W (Pl.rsOf_byte t).1 (Pl.rsOf_byte t).2
    rwa [Pl.okOf_txt ho] at this
  have H5 : Hid (Pl.okOf (Pl.txt s) = true → (Pl.rsOf (Pl.txt s)).1 = s.1 ∧ (Pl.rsOf (Pl.txt s)).2 = s.2) := fun ho => by
    cases hv : (Pl.rowT s.1 && Cd.isL s.2) with
    | false => rw [Pl.txt_lost hv] at ho; cases ho
    | true => rw [(Pl.txt_back hv).2]; exact ⟨rfl, rfl⟩
  have H6 : Hid ((Pl.txt s).toList.isEmpty = !Pl.okOf (Pl.txt s)) := show _ = _ by
    cases hv : (Pl.rowT s.1 && Cd.isL s.2) with
    | false => rw [Pl.txt_lost hv, Pl.txt_none hv, ByteArray.toList_eq]; rfl
    | true =>
      rw [(Pl.txt_back hv).1]
      have := (Pl.txt_size hv).1
      cases hq : (Pl.txt s).toList with
      | nil =>
        have e : (Pl.txt s).data.toList = [] := by rw [← ByteArray.toList_eq]; exact hq
        have e2 : (Pl.txt s).size = 0 := by
          show (Pl.txt s).data.size = 0
          rw [← Array.length_toList, e]
          rfl
        omega
      | cons a l => rfl
  obtain ⟨s1, s2⟩ := s
  exact texts_core w s1 s2 t (Pl.txt (s1, s2)) (Pl.rsOf t).1 (Pl.rsOf t).2 _ _ _ _ HT HR H1 H2 H3 H4 H5 H6

set_option maxRecDepth 100000 in
theorem planTexts_contract (H : Type) (enc : TypeId × Value → H) (W : World) (base : Nat) (args : Array Value) (ds gs : List (DataW H)) (before : List MemPlace)
    (hval0 : ∀ (j : Nat) t v, Tryd.f3.params[j]? = some t → args[j]? = some v → Value.okWide Tryd.prog W .any base t v)
    (hW : DataW.Whole enc Tryd.prog Tryd.f3.params.toList Rows.planTextsSpec.vars false W args.toList ds gs before) :
    Calls Tryd.prog 3 args W fun e W' => ∃ v, e = .returned v ∧ Rows.planTextsSpec.post enc Tryd.prog Tryd.f3 false true false false W args v W' := by
  have hval : ∀ (j : Nat) t v, Tryd.f3.params[j]? = some t → args[j]? = some v → Value.okWide Tryd.prog W .any base t v := hval0
  have hW' := hW
  obtain ⟨p, q, hA0, hV, rfl, hfz, hnd⟩ := hW
  have hA : DataW.TrodAll enc Tryd.prog W 0 (fun _ => true) true Tryd.f3.params.toList args.toList ds p := hA0
  rw [Tryd.params3] at hA hval
  obtain ⟨v0, vs0, d0, ds0, p0, q0, hargs, rfl, rfl, h0, r0⟩ := trodAll_cons hA
  obtain ⟨v1, vs1, d1, ds1, p1, q1, rfl, rfl, rfl, h1, r1⟩ := trodAll_cons r0
  obtain ⟨rfl, rfl, rfl⟩ := trodAll_nil r1
  obtain rfl : args = #[v0, v1] := by cases args; simp_all
  obtain ⟨rfl, rfl⟩ := trodVars_none hV
  have k0 := h0
  have lt0 : ∀ x ∈ p0, x.block < W.heap.size := by obtain ⟨m, hm⟩ := k0; exact DataW.trod_lt m _ _ _ hm
  obtain ⟨x0, rfl, b0⟩ := Pl.open_seat (hval 0 23 v0 rfl rfl) h0
  obtain ⟨a1, rfl, rfl, rfl, w1⟩ := Go.ChangeMaps.open_string Tryd.underlying9 (hval 1 9 v1 rfl rfl) h1
  clear hA0 hval0
  refine (texts9_walk W x0 b0 a1 w1).mono fun e W' ⟨he, bel⟩ => ?_
  subst he
  exact ⟨_, rfl, _, _, _, [], _, [], hW', trodAll_mk1 (shut_bool Tryd.underlying4 _), (trodAll_cons_mk (Below.trod laidOut (by kernel_rfl) (of_decide_eq_true (by kernel_rfl)) k0 bel lt0) (trodAll_cons_mk (Go.ChangeMaps.shut_string Tryd.underlying9 w1) (trodAll_mk0))), rfl, bel.frame _, fun h => by cases h⟩

theorem planTexts_laid_met (os : Os) : laidMet Tryd.prog Rows.planTextsRow.laid ((laidWorld os).forCall (fun _ _ => 0) ⟨#[], #[.agg #[.int .i64 0, .int .u8 0], .string ⟨#[]⟩], []⟩).memory :=
  laidMet_of_run' 8 (by kernel_rfl) (by kernel_rfl)
theorem planTexts_reads (os : Os) {H : Type} (enc : TypeId × Value → H) : ∃ places, DataW.whole enc Tryd.prog ((laidWorld os).forCall (fun _ _ => 0) ⟨#[], #[.agg #[.int .i64 0, .int .u8 0], .string ⟨#[]⟩], []⟩).memory Tryd.f3.params.toList Rows.planTextsSpec.vars false (#[.agg #[.int .i64 0, .int .u8 0], .string ⟨#[]⟩] : Array Value).toList 8 = some ([.agg [.lit (.int .i64 0), .lit (.int .u8 0)], .lit (.string [])], [], places) :=
  ⟨[], by kernel_rfl⟩

set_option maxRecDepth 100000 in
theorem planTexts_lifted (os : Os) (started : os.Started) (H : Type) (enc : TypeId × Value → H) (F : Stop.Interp) :
    ReturnsInHanded {} Tryd.checked os 3 .any ((OpenSpec.ofChange Rows.planTextsSpec).preRow enc Tryd.prog Tryd.f3 Rows.planTextsRow.domain false Rows.planTextsRow.laid) (((OpenSpec.ofChange Rows.planTextsSpec).at F).post enc Tryd.prog Tryd.f3 false true false false) := by
  obtain ⟨places, hx⟩ := planTexts_reads os enc
  refine returnsInHanded_of_row (C := Tryd.checked) (s := OpenSpec.ofChange Rows.planTextsSpec) own started (by kernel_rfl) Tryd.func3
    (witness_row_at (enc := enc) (C := Tryd.checked) false (laidWorld os) #[.agg #[.int .i64 0, .int .u8 0], .string ⟨#[]⟩] rfl (by kernel_rfl) (by kernel_rfl) (by kernel_rfl)
      (OpenSpec.preRow_of_cond 8 hx (by kernel_rfl) (fun k hk => by cases hk) (by kernel_rfl) (planTexts_laid_met os))) ?_
  intro W base args ds gs before hval hW _ _ _ hL _ _
  exact planTexts_contract H enc W base args ds gs before hval hW

theorem planTexts_said : Rows.PlanTextsSaid :=
  OpenClaim.holds_of_cond 3 Tryd.f3 rfl rfl rfl rfl rfl rfl rfl ⟨rfl, rfl, rfl, rfl, rfl⟩ rfl rfl rfl rfl rfl (by kernel_rfl) Tryd.func3 (by kernel_rfl)
    (of_decide_eq_true (by kernel_rfl)) (by unfold Func.isWrapper; first | (rw [if_pos (by decide +kernel)]; kernel_rfl) | (rw [if_neg (by decide +kernel)]; exact ⟨rfl, rfl⟩))
    (fun os started H enc _ F => by rw [OpenClaim.pre_eq_preRow]; exact planTexts_lifted os started H enc F)

theorem planTexts_plain (f : FuncId) (fn : Func) (hf : Tryd.pinned.checked.prog.funcNamed "jetway/jetwaylaw09.PlanTexts" = some f) (hfn : Tryd.pinned.checked.prog.funcs[f]? = some fn) :
    false = Tryd.pinned.checked.prog.looks [] ∧ ∀ (j : Nat) t, fn.params[j]? = some t → Tryd.pinned.checked.prog.wantsStandIn t = false := by
  obtain rfl : f = 3 := Option.some.inj ((show Tryd.prog.funcNamed "jetway/jetwaylaw09.PlanTexts" = some 3 by kernel_rfl).symm.trans hf) |>.symm
  obtain rfl : fn = Tryd.f3 := (Option.some.inj (Tryd.func3.symm.trans hfn)).symm
  refine ⟨by kernel_rfl, fun j t ht => ?_⟩
  rw [Tryd.params3] at ht
  have hm := Array.mem_of_getElem? ht
  have ho : t = 23 ∨ t = 9 := by simpa using hm
  rcases ho with rfl | rfl
  · exact (show Tryd.prog.wantsStandIn 23 = false by kernel_rfl)
  · exact (show Tryd.prog.wantsStandIn 9 = false by kernel_rfl)

/-- The card of PlanTexts. -/
theorem planTexts_holds : Rows.PlanTextsCardSaid :=
  Claim7.holds_tied_plain_at .later [] _ _ _ _ planTexts_said (fun _ h => by cases h) (by kernel_rfl) (fun _ h => by cases h) planTexts_row_tie rfl ⟨rfl, rfl⟩ (by kernel_rfl) rfl planTexts_plain (by kernel_rfl)
#print axioms planTexts_holds

end Go.Proofs.YtonfkonjkgalhaaDoor
