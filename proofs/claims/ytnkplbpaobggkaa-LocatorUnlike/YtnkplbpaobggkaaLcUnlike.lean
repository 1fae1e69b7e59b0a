/- LocatorUnlike, for every input: two numbers have two unlike locators, of six letters each; no conditions. -/
import Derived.Test.YtnkplbpaobggkaaLcAwk
namespace Go.Proofs.Ytnkplbpaobggkaa
open Go.ChangeShapes Go.WideShapes Go.ChangeAt Go.RowKit
set_option linter.unusedVariables false

theorem unlike_walk (w : World) (a : Int) (wa : (Lit.int .i64 a).wf = true) (b : Int) (wb : (Lit.int .i64 b).wf = true) :
    Calls Try.prog 5 #[.int .i64 a, .int .i64 b] w fun e w' => e = .returned (.bool true) ∧ Below w.heap.size w w' := by
  clear wa wb
  by_cases ha : 0 ≤ a ∧ a < 308915776
  · obtain ⟨m, rfl⟩ : ∃ m : Nat, a = (m : Int) := ⟨a.toNat, by omega⟩
    have hm : m < 308915776 := by omega
    have H1 := Lib.hid (fun w => text_yes m w hm)
    by_cases hb : 0 ≤ b ∧ b < 308915776
    · obtain ⟨n, rfl⟩ : ∃ n : Nat, b = (n : Int) := ⟨b.toNat, by omega⟩
      have hn : n < 308915776 := by omega
      have H2 := Lib.hid (fun (x : Int) (hx : x = (n : Int)) w => show Calls Try.prog 8 #[.int .i64 x] w _ from hx ▸ text_yes n w hn)
      have z1 := Lc.loc_size6 m
      have z2 := Lc.loc_size6 n
      have hinj : ((m : Int) == (n : Int)) = ((Lc.loc m).toList == (Lc.loc n).toList) := by
        by_cases e : m = n
        · subst e; simp
        · have e1 : ((m : Int) == (n : Int)) = false := by simp; omega
          rw [e1]
          cases e2 : ((Lc.loc m).toList == (Lc.loc n).toList) with
          | false => rfl
          | true =>
            exfalso
            apply e
            apply Lc.loc_inj hm hn
            simp [ByteArray.toList_eq] at e2
            exact ByteArray.ext e2
      generalize Lc.loc m = s at *
      generalize Lc.loc n = t at *
      clear ha hb
      go_enter Try.func5, Try.ntmps5
      go_wp2_with (first
        | (go_at_call 7; refine (awake_any _).mono ?_; rintro e w1 ⟨rfl, hb1⟩)
        | (go_at_call 8; have hgd := hb2'; refine (H2.out _ (by with_reducible rfl) _).mono ?_; rintro e w3 ⟨rfl, hb3⟩; have hb3' := hb2'.trans (hb3.mono hb2'.size))
        | (go_at_call 8; refine (H1.out _).mono ?_; rintro e w2 ⟨rfl, hb2⟩; have hb2' := hb1.trans (hb2.mono hb1.size)))
      go_ret
      exact ⟨by simp, hb3'⟩
    · have H2 := Lib.hid (fun w => text_no b w hb)
      clear ha hb
      go_enter Try.func5, Try.ntmps5
      go_wp2_with (first
        | (go_at_call 7; refine (awake_any _).mono ?_; rintro e w1 ⟨rfl, hb1⟩)
        | (go_at_call 8; have hgd := hb2'; refine (H2.out _).mono ?_; rintro e w3 ⟨rfl, rfl⟩)
        | (go_at_call 8; refine (H1.out _).mono ?_; rintro e w2 ⟨rfl, hb2⟩; have hb2' := hb1.trans (hb2.mono hb1.size)))
      all_goals go_ret
      all_goals exact ⟨by simp, hb2'⟩
  · have H1 := Lib.hid (fun w => text_no a w ha)
    have H2 : ∀ w, ∃ s x, Calls Try.prog 8 #[.int .i64 b] w fun e w' => e = .returned (.tuple #[.string s, .int .i64 x]) ∧ Below w.heap.size w w' := fun w => by
      by_cases hb : 0 ≤ b ∧ b < 308915776
      · obtain ⟨n, rfl⟩ : ∃ n : Nat, b = (n : Int) := ⟨b.toNat, by omega⟩
        exact ⟨_, _, text_yes n w (by omega)⟩
      · exact ⟨_, _, (text_no b w hb).mono fun e w' ⟨he, hw⟩ => ⟨he, hw ▸ Below.refl _ _⟩⟩
    clear ha
    go_enter Try.func5, Try.ntmps5
    go_wp2_with (first
      | (go_at_call 7; refine (awake_any _).mono ?_; rintro e w1 ⟨rfl, hb1⟩; obtain ⟨s, x, H3⟩ := H2 w1)
      | (go_at_call 8; have hgd := hq; refine (H3).mono ?_; rintro e w3 ⟨rfl, hb3⟩; have hb3' := hb1.trans (hb3.mono hb1.size))
      | (go_at_call 8; refine (H1.out _).mono ?_; rintro e w2 ⟨rfl, rfl⟩; have hq := hb1))
    go_ret
    exact ⟨by simp, hb3'⟩

set_option maxRecDepth 100000 in
theorem locatorUnlike_lifted (os : Os) (started : os.Started) (H : Type) (enc : TypeId × Value → H) :
    ReturnsInHanded {} Try.checked os 5 .any (Rows.locatorUnlikeSpec.pre6 enc Try.prog Try.f5 Rows.locatorUnlikeRow.domain false) (Rows.locatorUnlikeSpec.post enc Try.prog Try.f5 false true false false) := by
  refine returnsInHanded_of_change (C := Try.checked) own started (by kernel_rfl) Try.func5
    (ChangeSpec.witness6 (enc := enc) (C := Try.checked) false ⟨#[], #[.int .i64 0, .int .i64 0], []⟩ 8 (by kernel_rfl) (by kernel_rfl) (by kernel_rfl) (by kernel_rfl)) ?_
  intro W base args ds gs before hval0 hW hcnd _
  have hval : ∀ (j : Nat) t v, Try.f5.params[j]? = some t → args[j]? = some v → Value.okWide Try.prog W .any base t v := hval0
  have hW' := hW
  obtain ⟨p, q, hA0, hV, rfl, hfz, hnd⟩ := hW
  have hA : DataW.TrodAll enc Try.prog W 0 (fun _ => true) true Try.f5.params.toList args.toList ds p := hA0
  rw [Try.params5] at hA hval
  obtain ⟨v0, vs0, d0, ds0, p0, q0, hargs, rfl, rfl, h0, r0⟩ := trodAll_cons hA
  obtain ⟨v1, vs1, d1, ds1, p1, q1, rfl, rfl, rfl, h1, r1⟩ := trodAll_cons r0
  obtain ⟨rfl, rfl, rfl⟩ := trodAll_nil r1
  obtain rfl : args = #[v0, v1] := by cases args; simp_all
  obtain ⟨rfl, rfl⟩ := trodVars_none hV
  obtain ⟨a0, rfl, rfl, rfl, w0⟩ := open_int Try.underlying3 (hval 0 3 v0 rfl rfl) h0
  obtain ⟨a1, rfl, rfl, rfl, w1⟩ := open_int Try.underlying3 (hval 1 3 v1 rfl rfl) h1
  clear hA0 hval0
  refine (unlike_walk W a0 w0 a1 w1).mono fun e W' ⟨he, bel⟩ => ?_
  subst he
  exact ⟨_, rfl, _, _, _, [], _, [], hW', trodAll_mk1 (shut_bool Try.underlying4 _), (trodAll_cons_mk (shut_int Try.underlying3 w0) (trodAll_cons_mk (shut_int Try.underlying3 w1) (trodAll_mk0))), rfl, bel.frame _, fun h => by cases h⟩

/-- The statement LocatorUnlike. -/
theorem locatorUnlike_holds : Rows.LocatorUnlikeSaid :=
  OpenClaim.holds_of_wide 5 Try.f5 rfl rfl rfl rfl rfl rfl rfl ⟨rfl, rfl, rfl, rfl, rfl⟩ rfl rfl rfl rfl rfl (by kernel_rfl) Try.func5 (by kernel_rfl)
    (of_decide_eq_true (by kernel_rfl)) (by unfold Func.isWrapper; first | (rw [if_pos (by decide +kernel)]; kernel_rfl) | (rw [if_neg (by decide +kernel)]; exact ⟨rfl, rfl⟩))
    (fun os started H enc _ => locatorUnlike_lifted os started H enc)
#print axioms locatorUnlike_holds

end Go.Proofs.Ytnkplbpaobggkaa
