/- LocatorSums, for every input: what is added to a number turns all locators by the same; no conditions. -/
import Derived.Test.YtnkplbpaobggkaaLcAwk
namespace Go.Proofs.Ytnkplbpaobggkaa
open Go.ChangeShapes Go.WideShapes Go.ChangeAt Go.RowKit
set_option linter.unusedVariables false

set_option maxHeartbeats 2000000 in
theorem sums_walk (w : World) (a : Int) (wa : (Lit.int .i64 a).wf = true) (b : Int) (wb : (Lit.int .i64 b).wf = true) (c : Int) (wc : (Lit.int .i64 c).wf = true) :
    Calls Try.prog 6 #[.int .i64 a, .int .i64 b, .int .i64 c] w fun e w' => e = .returned (.bool true) ∧ Below w.heap.size w w' := by
  rcases (show a < 0 ∨ (0 ≤ a ∧ b < 0) ∨ (0 ≤ a ∧ 0 ≤ b ∧ c < 0) ∨ (0 ≤ a ∧ 0 ≤ b ∧ 0 ≤ c ∧ 308915776 ≤ a) ∨ (0 ≤ a ∧ 0 ≤ b ∧ 0 ≤ c ∧ a < 308915776 ∧ 308915776 ≤ b)
    ∨ (0 ≤ a ∧ 0 ≤ b ∧ 0 ≤ c ∧ a < 308915776 ∧ b < 308915776 ∧ 308915776 ≤ c) ∨ (0 ≤ a ∧ 0 ≤ b ∧ 0 ≤ c ∧ a < 308915776 ∧ b < 308915776 ∧ c < 308915776 ∧ 308915776 ≤ a + c)
    ∨ (0 ≤ a ∧ 0 ≤ b ∧ 0 ≤ c ∧ a < 308915776 ∧ b < 308915776 ∧ c < 308915776 ∧ a + c < 308915776 ∧ 308915776 ≤ b + c)
    ∨ (0 ≤ a ∧ 0 ≤ b ∧ 0 ≤ c ∧ a < 308915776 ∧ b < 308915776 ∧ c < 308915776 ∧ a + c < 308915776 ∧ b + c < 308915776) by omega) with u | ⟨u0, u⟩ | ⟨u0, u1, u⟩ | ⟨u0, u1, u2, u⟩ | ⟨u0, u1, u2, u3, u⟩ | ⟨u0, u1, u2, u3, u4, u⟩ | ⟨u0, u1, u2, u3, u4, u5, u⟩ | ⟨u0, u1, u2, u3, u4, u5, u6, u⟩ | ⟨u0, u1, u2, u3, u4, u5, u6, u⟩
  iterate 8
    clear wa wb wc
    go_enter Try.func6, Try.ntmps6
    go_wp2_with (go_at_call 7; refine (awake_any _).mono ?_; rintro e w1 ⟨rfl, hb1⟩)
    go_ret
    exact ⟨by simp, hb1⟩
  · have HE : Hid ((Lc.scI (a + c) - Lc.scI a) % 308915776 = (Lc.scI (b + c) - Lc.scI b) % 308915776) := show _ = _ by unfold Lc.scI; omega
    have p1 := Lc.scI_lo (a + c)
    have p2 := Lc.scI_hi (a + c)
    have p3 := Lc.scI_lo a
    have p4 := Lc.scI_hi a
    have p5 := Lc.scI_lo (b + c)
    have p6 := Lc.scI_hi (b + c)
    have p7 := Lc.scI_lo b
    have p8 := Lc.scI_hi b
    clear wa wb wc
    go_enter Try.func6, Try.ntmps6
    go_wp2_with (first
      | (go_at_call 7; refine (awake_any _).mono ?_; rintro e w1 ⟨rfl, hb1⟩)
      | (go_at_call 12; have hgd := hb4'; refine (lvalue_any _ _ (by omega) (by omega)).mono ?_; rintro e w5 ⟨rfl, hb5⟩; have hb5' := hb4'.trans (hb5.mono hb4'.size))
      | (go_at_call 12; have hgd := hb3'; refine (lvalue_any _ _ (by omega) (by omega)).mono ?_; rintro e w4 ⟨rfl, hb4⟩; have hb4' := hb3'.trans (hb4.mono hb3'.size))
      | (go_at_call 12; have hgd := hb2'; refine (lvalue_any _ _ (by omega) (by omega)).mono ?_; rintro e w3 ⟨rfl, hb3⟩; have hb3' := hb2'.trans (hb3.mono hb2'.size))
      | (go_at_call 12; refine (lvalue_any _ _ (by omega) (by omega)).mono ?_; rintro e w2 ⟨rfl, hb2⟩; have hb2' := hb1.trans (hb2.mono hb1.size)))
    go_ret
    exact ⟨by rw [HE.out]; simp, hb5'⟩

set_option maxRecDepth 100000 in
theorem locatorSums_lifted (os : Os) (started : os.Started) (H : Type) (enc : TypeId × Value → H) :
    ReturnsInHanded {} Try.checked os 6 .any (Rows.locatorSumsSpec.pre6 enc Try.prog Try.f6 Rows.locatorSumsRow.domain false) (Rows.locatorSumsSpec.post enc Try.prog Try.f6 false true false false) := by
  refine returnsInHanded_of_change (C := Try.checked) own started (by kernel_rfl) Try.func6
    (ChangeSpec.witness6 (enc := enc) (C := Try.checked) false ⟨#[], #[.int .i64 0, .int .i64 0, .int .i64 0], []⟩ 8 (by kernel_rfl) (by kernel_rfl) (by kernel_rfl) (by kernel_rfl)) ?_
  intro W base args ds gs before hval0 hW hcnd _
  have hval : ∀ (j : Nat) t v, Try.f6.params[j]? = some t → args[j]? = some v → Value.okWide Try.prog W .any base t v := hval0
  have hW' := hW
  obtain ⟨p, q, hA0, hV, rfl, hfz, hnd⟩ := hW
  have hA : DataW.TrodAll enc Try.prog W 0 (fun _ => true) true Try.f6.params.toList args.toList ds p := hA0
  rw [Try.params6] at hA hval
  obtain ⟨v0, vs0, d0, ds0, p0, q0, hargs, rfl, rfl, h0, r0⟩ := trodAll_cons hA
  obtain ⟨v1, vs1, d1, ds1, p1, q1, rfl, rfl, rfl, h1, r1⟩ := trodAll_cons r0
  obtain ⟨v2, vs2, d2, ds2, p2, q2, rfl, rfl, rfl, h2, r2⟩ := trodAll_cons r1
  obtain ⟨rfl, rfl, rfl⟩ := trodAll_nil r2
  obtain rfl : args = #[v0, v1, v2] := by cases args; simp_all
  obtain ⟨rfl, rfl⟩ := trodVars_none hV
  obtain ⟨a0, rfl, rfl, rfl, w0⟩ := open_int Try.underlying3 (hval 0 3 v0 rfl rfl) h0
  obtain ⟨a1, rfl, rfl, rfl, w1⟩ := open_int Try.underlying3 (hval 1 3 v1 rfl rfl) h1
  obtain ⟨a2, rfl, rfl, rfl, w2⟩ := open_int Try.underlying3 (hval 2 3 v2 rfl rfl) h2
  clear hA0 hval0
  refine (sums_walk W a0 w0 a1 w1 a2 w2).mono fun e W' ⟨he, bel⟩ => ?_
  subst he
  exact ⟨_, rfl, _, _, _, [], _, [], hW', trodAll_mk1 (shut_bool Try.underlying4 _), (trodAll_cons_mk (shut_int Try.underlying3 w0) (trodAll_cons_mk (shut_int Try.underlying3 w1) (trodAll_cons_mk (shut_int Try.underlying3 w2) (trodAll_mk0)))), rfl, bel.frame _, fun h => by cases h⟩

/-- The statement LocatorSums. -/
theorem locatorSums_holds : Rows.LocatorSumsSaid :=
  OpenClaim.holds_of_wide 6 Try.f6 rfl rfl rfl rfl rfl rfl rfl ⟨rfl, rfl, rfl, rfl, rfl⟩ rfl rfl rfl rfl rfl (by kernel_rfl) Try.func6 (by kernel_rfl)
    (of_decide_eq_true (by kernel_rfl)) (by unfold Func.isWrapper; first | (rw [if_pos (by decide +kernel)]; kernel_rfl) | (rw [if_neg (by decide +kernel)]; exact ⟨rfl, rfl⟩))
    (fun os started H enc _ => locatorSums_lifted os started H enc)
#print axioms locatorSums_holds

end Go.Proofs.Ytnkplbpaobggkaa
