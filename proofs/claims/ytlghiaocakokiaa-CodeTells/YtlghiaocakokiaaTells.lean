/- CodeTells, for every input: City, Carrier, Agent, Person, Locator and Free tell just what the document's do; no conditions. -/
import Derived.Test.YtlghiaocakokiaaAwake
namespace Go.Proofs.Ytlghiaocakokiaa
open Go.ChangeShapes Go.WideShapes Go.ChangeAt Go.RowKit
set_option linter.unusedVariables false

theorem tells_walk (w : World) (s : ByteArray) (hs : s.size ≤ maxLen) :
    Calls Try.prog 3 #[.string s] w fun e w' => e = .returned (.bool true) ∧ Below w.heap.size w w' := by
  unfold maxLen at hs
  rcases Nat.lt_or_ge 20000 s.size with h | h
  · go_enter Try.func3, Try.ntmps3
    go_wp2_with (first
      | (go_at_call 7; refine (awake_any _).mono ?_; rintro e w1 ⟨rfl, hb⟩)
      | (go_at_call 8; refine (long_yes _ _ hs h).mono ?_; rintro e w' ⟨rfl, rfl⟩))
    go_ret
    exact ⟨rfl, hb⟩
  · have hs' : s.size ≤ 140737488355328 := by omega
    go_enter Try.func3, Try.ntmps3
    go_wp2_with (first
      | (go_at_call 7; refine (awake_any _).mono ?_; rintro e w1 ⟨rfl, hb⟩)
      | (go_at_call 8; refine (long_no _ _ h).mono ?_; rintro e w' ⟨rfl, rfl⟩)
      | (go_at_call 9; refine (city_any _ _ hs').mono ?_; rintro e w' ⟨rfl, rfl⟩)
      | (go_at_call 10; refine (rcity_any _ _ hs').mono ?_; rintro e w' ⟨rfl, rfl⟩)
      | (go_at_call 11; refine (carrier_any _ _ hs').mono ?_; rintro e w' ⟨rfl, rfl⟩)
      | (go_at_call 12; refine (rcarrier_any _ _ hs').mono ?_; rintro e w' ⟨rfl, rfl⟩)
      | (go_at_call 13; refine (agent_any _ _ hs').mono ?_; rintro e w' ⟨rfl, rfl⟩)
      | (go_at_call 14; refine (ragent_any _ _ hs').mono ?_; rintro e w' ⟨rfl, rfl⟩)
      | (go_at_call 15; refine (person_any _ _ hs').mono ?_; rintro e w' ⟨rfl, rfl⟩)
      | (go_at_call 16; refine (rperson_any _ _ hs').mono ?_; rintro e w' ⟨rfl, rfl⟩)
      | (go_at_call 17; refine (locator_any _ _ hs').mono ?_; rintro e w' ⟨rfl, rfl⟩)
      | (go_at_call 18; refine (rlocator_any _ _ hs').mono ?_; rintro e w' ⟨rfl, rfl⟩)
      | (go_at_call 19; refine (free_any _ _ hs').mono ?_; rintro e w' ⟨rfl, rfl⟩)
      | (go_at_call 20; refine (rfree_any _ _ hs').mono ?_; rintro e w' ⟨rfl, rfl⟩))
    go_ret
    exact ⟨by simp, hb⟩

set_option maxRecDepth 100000 in
theorem codeTells_lifted (os : Os) (started : os.Started) (H : Type) (enc : TypeId × Value → H) :
    ReturnsInHanded {} Try.checked os 3 .any (Rows.codeTellsSpec.pre6 enc Try.prog Try.f3 Rows.codeTellsRow.domain false) (Rows.codeTellsSpec.post enc Try.prog Try.f3 false true false false) := by
  refine returnsInHanded_of_change (C := Try.checked) own started (by kernel_rfl) Try.func3
    (ChangeSpec.witness6 (enc := enc) (C := Try.checked) false ⟨#[], #[.string ⟨#[]⟩], []⟩ 8 (by kernel_rfl) (by kernel_rfl) (by kernel_rfl) (by kernel_rfl)) ?_
  intro W base args ds gs before hval0 hW hcnd _
  have hval : ∀ (j : Nat) t v, Try.f3.params[j]? = some t → args[j]? = some v → Value.okWide Try.prog W .any base t v := hval0
  have hW' := hW
  obtain ⟨p, q, hA0, hV, rfl, hfz, hnd⟩ := hW
  have hA : DataW.TrodAll enc Try.prog W 0 (fun _ => true) true Try.f3.params.toList args.toList ds p := hA0
  rw [Try.params3] at hA hval
  obtain ⟨v0, vs0, d0, ds0, p0, q0, hargs, rfl, rfl, h0, r0⟩ := trodAll_cons hA
  obtain ⟨rfl, rfl, rfl⟩ := trodAll_nil r0
  obtain rfl : args = #[v0] := by cases args; simp_all
  obtain ⟨rfl, rfl⟩ := trodVars_none hV
  obtain ⟨a0, rfl, rfl, rfl, w0⟩ := Go.ChangeMaps.open_string Try.underlying9 (hval 0 9 v0 rfl rfl) h0
  clear hA0 hval0
  refine (tells_walk W a0 w0).mono fun e W' ⟨he, bel⟩ => ?_
  subst he
  exact ⟨_, rfl, _, _, _, [], _, [], hW', trodAll_mk1 (shut_bool Try.underlying4 _), (trodAll_cons_mk (Go.ChangeMaps.shut_string Try.underlying9 w0) (trodAll_mk0)), rfl, bel.frame _, fun h => by cases h⟩

/-- The statement CodeTells. -/
theorem codeTells_holds : Rows.CodeTellsSaid :=
  OpenClaim.holds_of_wide 3 Try.f3 rfl rfl rfl rfl rfl rfl rfl ⟨rfl, rfl, rfl, rfl, rfl⟩ rfl rfl rfl rfl rfl (by kernel_rfl) Try.func3 (by kernel_rfl)
    (of_decide_eq_true (by kernel_rfl)) (by unfold Func.isWrapper; first | (rw [if_pos (by decide +kernel)]; kernel_rfl) | (rw [if_neg (by decide +kernel)]; exact ⟨rfl, rfl⟩))
    (fun os started H enc _ => codeTells_lifted os started H enc)
#print axioms codeTells_holds

end Go.Proofs.Ytlghiaocakokiaa
