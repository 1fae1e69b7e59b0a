/- CodeFree, for every input: cities, agents, persons and locators are free texts, cities and locators are persons, and no text is a city and a locator, or a carrier and a city; no conditions. -/
import Derived.Test.YtlghiaocakokiaaAwake
namespace Go.Proofs.Ytlghiaocakokiaa
open Go.ChangeShapes Go.WideShapes Go.ChangeAt Go.RowKit
set_option linter.unusedVariables false

namespace Cd
theorem isM_F {c : Int} (h : isM c = true) : isF c = true := by
  unfold isM at h
  unfold isF
  rw [h]
  rfl
theorem isM_ne {c : Int} (h : isM c = true) : (c == 32) = false := by
  rw [beq_eq_false_iff_ne]
  intro e
  subst e
  exact absurd h (by decide)
theorem chn_mixed : ∀ (l : List Int) (p : Int), l.all isM = true → chn p l = true
  | [], _, _ => rfl
  | c :: r, p, h => by
    rw [List.all_cons, Bool.and_eq_true] at h
    rw [chn, ok, isM_F h.1, isM_ne h.1, chn_mixed r c h.2]
    rfl
theorem lst_mem : ∀ (l : List Int) (p : Int), 0 < l.length → lst p l ∈ l
  | [c], p, _ => List.mem_singleton.2 rfl
  | c :: d :: r, p, _ => by
    rw [lst]
    exact List.mem_cons_of_mem _ (lst_mem (d :: r) c (by simp))
theorem free_mixed (s : ByteArray) (h0 : 0 < s.size) (h1 : s.size ≤ 40) (h : (bs s).all isM = true) : free (bs s) = true := by
  have hm := lst_mem (bs s) 32 (by rw [length_bs]; exact h0)
  rw [List.all_eq_true] at h
  have hn := isM_ne (h _ hm)
  unfold free
  rw [length_bs, decide_eq_true h1, chn_mixed _ _ (List.all_eq_true.2 h), bne, hn]
  rfl
theorem city_person {s : ByteArray} (h : city s = true) : person s = true := by
  unfold city at h
  simp only [Bool.and_eq_true, decide_eq_true_eq] at h
  unfold person
  rw [decide_eq_true (by omega), decide_eq_true (by omega), h.2]
  rfl
theorem locator_person {s : ByteArray} (h : locator s = true) : person s = true := by
  unfold locator at h
  simp only [Bool.and_eq_true, decide_eq_true_eq] at h
  unfold person
  rw [decide_eq_true (by omega), decide_eq_true (by omega), h.2]
  rfl
theorem person_free {s : ByteArray} (h : person s = true) : free (bs s) = true := by
  unfold person at h
  simp only [Bool.and_eq_true, decide_eq_true_eq] at h
  exact free_mixed s h.1.1 (by omega) (all_L_M h.2)
theorem agent_free {s : ByteArray} (h : agent s = true) : free (bs s) = true := by
  unfold agent at h
  simp only [Bool.and_eq_true, decide_eq_true_eq] at h
  exact free_mixed s (by omega) (by omega) h.2
theorem city_locator {s : ByteArray} (h : city s = true) : locator s = false := by
  unfold city at h
  simp only [Bool.and_eq_true, decide_eq_true_eq] at h
  unfold locator
  rw [decide_eq_false (by omega)]
  rfl
theorem city_carrier {s : ByteArray} (h : city s = true) : carrier s = false := by
  unfold city at h
  simp only [Bool.and_eq_true, decide_eq_true_eq] at h
  unfold carrier
  rw [decide_eq_false (by omega)]
  rfl
end Cd

theorem free_core (w : World) (s : ByteArray) (h : s.size ≤ 20000) (c a p l k f : Bool)
    (H9 : Hid (∀ w, Calls Try.prog 9 #[.string s] w fun e w' => e = .returned (.bool c) ∧ w = w'))
    (H13 : Hid (∀ w, Calls Try.prog 13 #[.string s] w fun e w' => e = .returned (.bool a) ∧ w = w'))
    (H15 : Hid (∀ w, Calls Try.prog 15 #[.string s] w fun e w' => e = .returned (.bool p) ∧ w = w'))
    (H17 : Hid (∀ w, Calls Try.prog 17 #[.string s] w fun e w' => e = .returned (.bool l) ∧ w = w'))
    (H11 : Hid (∀ w, Calls Try.prog 11 #[.string s] w fun e w' => e = .returned (.bool k) ∧ w = w'))
    (H19 : Hid (∀ w, Calls Try.prog 19 #[.string s] w fun e w' => e = .returned (.bool f) ∧ w = w'))
    (x : (c = true ∧ p = true ∧ l = false ∧ k = false ∧ f = true) ∨ (c = false ∧ l = true ∧ p = true ∧ f = true) ∨ (c = false ∧ l = false ∧ p = true ∧ f = true) ∨ (c = false ∧ l = false ∧ p = false ∧ a = true ∧ f = true) ∨ (c = false ∧ l = false ∧ p = false ∧ a = false)) :
    Calls Try.prog 5 #[.string s] w fun e w' => e = .returned (.bool true) ∧ Below w.heap.size w w' := by
  rcases x with ⟨rfl, rfl, rfl, rfl, rfl⟩ | ⟨rfl, rfl, rfl, rfl⟩ | ⟨rfl, rfl, rfl, rfl⟩ | ⟨rfl, rfl, rfl, rfl, rfl⟩ | ⟨rfl, rfl, rfl, rfl⟩
  · go_enter Try.func5, Try.ntmps5
    go_wp2_with (first
      | (go_at_call 7; refine (awake_any _).mono ?_; rintro e w1 ⟨rfl, hb⟩)
      | (go_at_call 8; refine (long_no _ _ h).mono ?_; rintro e w' ⟨rfl, rfl⟩)
      | (go_at_call 9; refine (H9.out _).mono ?_; rintro e w' ⟨rfl, rfl⟩)
      | (go_at_call 13; refine (H13.out _).mono ?_; rintro e w' ⟨rfl, rfl⟩)
      | (go_at_call 15; refine (H15.out _).mono ?_; rintro e w' ⟨rfl, rfl⟩)
      | (go_at_call 17; refine (H17.out _).mono ?_; rintro e w' ⟨rfl, rfl⟩)
      | (go_at_call 11; refine (H11.out _).mono ?_; rintro e w' ⟨rfl, rfl⟩)
      | (go_at_call 19; refine (H19.out _).mono ?_; rintro e w' ⟨rfl, rfl⟩))
    go_ret
    exact ⟨rfl, hb⟩
  · cases a <;> cases k
    all_goals go_enter Try.func5, Try.ntmps5
    all_goals go_wp2_with (first
      | (go_at_call 7; refine (awake_any _).mono ?_; rintro e w1 ⟨rfl, hb⟩)
      | (go_at_call 8; refine (long_no _ _ h).mono ?_; rintro e w' ⟨rfl, rfl⟩)
      | (go_at_call 9; refine (H9.out _).mono ?_; rintro e w' ⟨rfl, rfl⟩)
      | (go_at_call 13; refine (H13.out _).mono ?_; rintro e w' ⟨rfl, rfl⟩)
      | (go_at_call 15; refine (H15.out _).mono ?_; rintro e w' ⟨rfl, rfl⟩)
      | (go_at_call 17; refine (H17.out _).mono ?_; rintro e w' ⟨rfl, rfl⟩)
      | (go_at_call 11; refine (H11.out _).mono ?_; rintro e w' ⟨rfl, rfl⟩)
      | (go_at_call 19; refine (H19.out _).mono ?_; rintro e w' ⟨rfl, rfl⟩))
    all_goals go_ret
    all_goals exact ⟨rfl, hb⟩
  · cases a <;> cases k
    all_goals go_enter Try.func5, Try.ntmps5
    all_goals go_wp2_with (first
      | (go_at_call 7; refine (awake_any _).mono ?_; rintro e w1 ⟨rfl, hb⟩)
      | (go_at_call 8; refine (long_no _ _ h).mono ?_; rintro e w' ⟨rfl, rfl⟩)
      | (go_at_call 9; refine (H9.out _).mono ?_; rintro e w' ⟨rfl, rfl⟩)
      | (go_at_call 13; refine (H13.out _).mono ?_; rintro e w' ⟨rfl, rfl⟩)
      | (go_at_call 15; refine (H15.out _).mono ?_; rintro e w' ⟨rfl, rfl⟩)
      | (go_at_call 17; refine (H17.out _).mono ?_; rintro e w' ⟨rfl, rfl⟩)
      | (go_at_call 11; refine (H11.out _).mono ?_; rintro e w' ⟨rfl, rfl⟩)
      | (go_at_call 19; refine (H19.out _).mono ?_; rintro e w' ⟨rfl, rfl⟩))
    all_goals go_ret
    all_goals exact ⟨rfl, hb⟩
  · cases k
    all_goals go_enter Try.func5, Try.ntmps5
    all_goals go_wp2_with (first
      | (go_at_call 7; refine (awake_any _).mono ?_; rintro e w1 ⟨rfl, hb⟩)
      | (go_at_call 8; refine (long_no _ _ h).mono ?_; rintro e w' ⟨rfl, rfl⟩)
      | (go_at_call 9; refine (H9.out _).mono ?_; rintro e w' ⟨rfl, rfl⟩)
      | (go_at_call 13; refine (H13.out _).mono ?_; rintro e w' ⟨rfl, rfl⟩)
      | (go_at_call 15; refine (H15.out _).mono ?_; rintro e w' ⟨rfl, rfl⟩)
      | (go_at_call 17; refine (H17.out _).mono ?_; rintro e w' ⟨rfl, rfl⟩)
      | (go_at_call 11; refine (H11.out _).mono ?_; rintro e w' ⟨rfl, rfl⟩)
      | (go_at_call 19; refine (H19.out _).mono ?_; rintro e w' ⟨rfl, rfl⟩))
    all_goals go_ret
    all_goals exact ⟨rfl, hb⟩
  · cases k
    all_goals go_enter Try.func5, Try.ntmps5
    all_goals go_wp2_with (first
      | (go_at_call 7; refine (awake_any _).mono ?_; rintro e w1 ⟨rfl, hb⟩)
      | (go_at_call 8; refine (long_no _ _ h).mono ?_; rintro e w' ⟨rfl, rfl⟩)
      | (go_at_call 9; refine (H9.out _).mono ?_; rintro e w' ⟨rfl, rfl⟩)
      | (go_at_call 13; refine (H13.out _).mono ?_; rintro e w' ⟨rfl, rfl⟩)
      | (go_at_call 15; refine (H15.out _).mono ?_; rintro e w' ⟨rfl, rfl⟩)
      | (go_at_call 17; refine (H17.out _).mono ?_; rintro e w' ⟨rfl, rfl⟩)
      | (go_at_call 11; refine (H11.out _).mono ?_; rintro e w' ⟨rfl, rfl⟩)
      | (go_at_call 19; refine (H19.out _).mono ?_; rintro e w' ⟨rfl, rfl⟩))
    all_goals go_ret
    all_goals exact ⟨rfl, hb⟩

theorem free_walk (w : World) (s : ByteArray) (hs : s.size ≤ maxLen) :
    Calls Try.prog 5 #[.string s] w fun e w' => e = .returned (.bool true) ∧ Below w.heap.size w w' := by
  unfold maxLen at hs
  rcases Nat.lt_or_ge 20000 s.size with h | h
  · go_enter Try.func5, Try.ntmps5
    go_wp2_with (first
      | (go_at_call 7; refine (awake_any _).mono ?_; rintro e w1 ⟨rfl, hb⟩)
      | (go_at_call 8; refine (long_yes _ _ hs h).mono ?_; rintro e w' ⟨rfl, rfl⟩))
    go_ret
    exact ⟨rfl, hb⟩
  · have hs' : s.size ≤ 140737488355328 := by omega
    refine free_core w s h _ _ _ _ _ _ (fun w => city_any s w hs') (fun w => agent_any s w hs') (fun w => person_any s w hs') (fun w => locator_any s w hs') (fun w => carrier_any s w hs') (fun w => free_any s w hs') ?_
    cases hc : Cd.city s with
    | true => exact .inl ⟨rfl, Cd.city_person hc, Cd.city_locator hc, Cd.city_carrier hc, Cd.person_free (Cd.city_person hc)⟩
    | false =>
      cases hl : Cd.locator s with
      | true => exact .inr (.inl ⟨rfl, rfl, Cd.locator_person hl, Cd.person_free (Cd.locator_person hl)⟩)
      | false =>
        cases hp : Cd.person s with
        | true => exact .inr (.inr (.inl ⟨rfl, rfl, rfl, Cd.person_free hp⟩))
        | false =>
          cases ha : Cd.agent s with
          | true => exact .inr (.inr (.inr (.inl ⟨rfl, rfl, rfl, rfl, Cd.agent_free ha⟩)))
          | false => exact .inr (.inr (.inr (.inr ⟨rfl, rfl, rfl, rfl⟩)))

set_option maxRecDepth 100000 in
theorem codeFree_lifted (os : Os) (started : os.Started) (H : Type) (enc : TypeId × Value → H) :
    ReturnsInHanded {} Try.checked os 5 .any (Rows.codeFreeSpec.pre6 enc Try.prog Try.f5 Rows.codeFreeRow.domain false) (Rows.codeFreeSpec.post enc Try.prog Try.f5 false true false false) := by
  refine returnsInHanded_of_change (C := Try.checked) own started (by kernel_rfl) Try.func5
    (ChangeSpec.witness6 (enc := enc) (C := Try.checked) false ⟨#[], #[.string ⟨#[]⟩], []⟩ 8 (by kernel_rfl) (by kernel_rfl) (by kernel_rfl) (by kernel_rfl)) ?_
  intro W base args ds gs before hval0 hW hcnd _
  have hval : ∀ (j : Nat) t v, Try.f5.params[j]? = some t → args[j]? = some v → Value.okWide Try.prog W .any base t v := hval0
  have hW' := hW
  obtain ⟨p, q, hA0, hV, rfl, hfz, hnd⟩ := hW
  have hA : DataW.TrodAll enc Try.prog W 0 (fun _ => true) true Try.f5.params.toList args.toList ds p := hA0
  rw [Try.params5] at hA hval
  obtain ⟨v0, vs0, d0, ds0, p0, q0, hargs, rfl, rfl, h0, r0⟩ := trodAll_cons hA
  obtain ⟨rfl, rfl, rfl⟩ := trodAll_nil r0
  obtain rfl : args = #[v0] := by cases args; simp_all
  obtain ⟨rfl, rfl⟩ := trodVars_none hV
  obtain ⟨a0, rfl, rfl, rfl, w0⟩ := Go.ChangeMaps.open_string Try.underlying9 (hval 0 9 v0 rfl rfl) h0
  clear hA0 hval0
  refine (free_walk W a0 w0).mono fun e W' ⟨he, bel⟩ => ?_
  subst he
  exact ⟨_, rfl, _, _, _, [], _, [], hW', trodAll_mk1 (shut_bool Try.underlying4 _), (trodAll_cons_mk (Go.ChangeMaps.shut_string Try.underlying9 w0) (trodAll_mk0)), rfl, bel.frame _, fun h => by cases h⟩

/-- The statement CodeFree. -/
theorem codeFree_holds : Rows.CodeFreeSaid :=
  OpenClaim.holds_of_wide 5 Try.f5 rfl rfl rfl rfl rfl rfl rfl ⟨rfl, rfl, rfl, rfl, rfl⟩ rfl rfl rfl rfl rfl (by kernel_rfl) Try.func5 (by kernel_rfl)
    (of_decide_eq_true (by kernel_rfl)) (by unfold Func.isWrapper; first | (rw [if_pos (by decide +kernel)]; kernel_rfl) | (rw [if_neg (by decide +kernel)]; exact ⟨rfl, rfl⟩))
    (fun os started H enc _ => codeFree_lifted os started H enc)
#print axioms codeFree_holds

end Go.Proofs.Ytlghiaocakokiaa
