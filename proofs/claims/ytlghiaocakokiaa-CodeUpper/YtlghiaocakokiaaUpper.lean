/- CodeUpper, for every input: Upper is the document's, done twice it is done once, and a class is a great letter; no conditions. -/
import Derived.Test.YtlghiaocakokiaaAwake
namespace Go.Proofs.Ytlghiaocakokiaa
open Go.ChangeShapes Go.WideShapes Go.ChangeAt Go.RowKit
set_option linter.unusedVariables false

namespace Cd
theorem up8_up8 (c : UInt8) : up8 (up8 c) = up8 c := by
  by_cases h : 97 ≤ c.toNat ∧ c.toNat ≤ 122
  · have := up8_yes h.1 h.2
    exact up8_no (by omega)
  · rw [up8_no h, up8_no h]
theorem upper_upper (s : ByteArray) : upper (upper s) = upper s := by
  unfold upper
  apply ByteArray.ext
  simp [up8_up8]
theorem size_upper (s : ByteArray) : (upper s).size = s.size := by
  show (s.data.toList.map up8).toArray.size = s.data.size
  simp
end Cd

theorem upper_walk (w : World) (s : ByteArray) (hs : s.size ≤ maxLen) (c : Int) (wc : (Lit.int .u8 c).wf = true) :
    Calls Try.prog 4 #[.string s, .int .u8 c] w fun e w' => e = .returned (.bool true) ∧ Below w.heap.size w w' := by
  unfold maxLen at hs
  clear wc
  rcases Nat.lt_or_ge 20000 s.size with h | h
  · go_enter Try.func4, Try.ntmps4
    go_wp2_with (first
      | (go_at_call 7; refine (awake_any _).mono ?_; rintro e w1 ⟨rfl, hb⟩)
      | (go_at_call 8; refine (long_yes _ _ hs h).mono ?_; rintro e w' ⟨rfl, rfl⟩))
    go_ret
    exact ⟨rfl, hb⟩
  · have hs' : s.size ≤ 140737488355328 := by omega
    have h1 := fun w => upper_any s w hs'
    have h2 := fun w => rupper_any s w h
    have h3 := fun w => upper_any (Cd.upper s) w (by rw [Cd.size_upper]; exact hs')
    rw [Cd.upper_upper] at h3
    have H1 := Lib.hid h1
    have H2 := Lib.hid h2
    have H3 := Lib.hid h3
    clear h1 h2 h3
    generalize Cd.upper s = u at *
    go_enter Try.func4, Try.ntmps4
    go_wp2_with (first
      | (go_at_call 7; refine (awake_any _).mono ?_; rintro e w1 ⟨rfl, hb1⟩)
      | (go_at_call 8; refine (long_no _ _ h).mono ?_; rintro e w' ⟨rfl, rfl⟩))
    refine (H1.out _).mono ?_
    rintro e w2 ⟨rfl, hb2⟩
    have hb2' := hb1.trans (hb2.mono hb1.size)
    go_wp2_with (go_at_call 22; refine (H2.out _).mono ?_; rintro e w3 ⟨rfl, hb3⟩)
    refine (H3.out _).mono ?_
    rintro e w4 ⟨rfl, hb4⟩
    have hb3' := hb2'.trans (hb3.mono hb2'.size)
    have hb4' := hb3'.trans (hb4.mono hb3'.size)
    go_wp2_with (first
      | (go_at_call 23; refine (class_any _ _).mono ?_; rintro e w' ⟨rfl, rfl⟩)
      | (go_at_call 24; refine (rclass_any _ _).mono ?_; rintro e w' ⟨rfl, rfl⟩))
    go_ret
    exact ⟨by simp, hb4'⟩

set_option maxRecDepth 100000 in
theorem codeUpper_lifted (os : Os) (started : os.Started) (H : Type) (enc : TypeId × Value → H) :
    ReturnsInHanded {} Try.checked os 4 .any (Rows.codeUpperSpec.pre6 enc Try.prog Try.f4 Rows.codeUpperRow.domain false) (Rows.codeUpperSpec.post enc Try.prog Try.f4 false true false false) := by
  refine returnsInHanded_of_change (C := Try.checked) own started (by kernel_rfl) Try.func4
    (ChangeSpec.witness6 (enc := enc) (C := Try.checked) false ⟨#[], #[.string ⟨#[]⟩, .int .u8 0], []⟩ 8 (by kernel_rfl) (by kernel_rfl) (by kernel_rfl) (by kernel_rfl)) ?_
  intro W base args ds gs before hval0 hW hcnd _
  have hval : ∀ (j : Nat) t v, Try.f4.params[j]? = some t → args[j]? = some v → Value.okWide Try.prog W .any base t v := hval0
  have hW' := hW
  obtain ⟨p, q, hA0, hV, rfl, hfz, hnd⟩ := hW
  have hA : DataW.TrodAll enc Try.prog W 0 (fun _ => true) true Try.f4.params.toList args.toList ds p := hA0
  rw [Try.params4] at hA hval
  obtain ⟨v0, vs0, d0, ds0, p0, q0, hargs, rfl, rfl, h0, r0⟩ := trodAll_cons hA
  obtain ⟨v1, vs1, d1, ds1, p1, q1, rfl, rfl, rfl, h1, r1⟩ := trodAll_cons r0
  obtain ⟨rfl, rfl, rfl⟩ := trodAll_nil r1
  obtain rfl : args = #[v0, v1] := by cases args; simp_all
  obtain ⟨rfl, rfl⟩ := trodVars_none hV
  obtain ⟨a0, rfl, rfl, rfl, w0⟩ := Go.ChangeMaps.open_string Try.underlying9 (hval 0 9 v0 rfl rfl) h0
  obtain ⟨a1, rfl, rfl, rfl, w1⟩ := open_int Try.underlying5 (hval 1 5 v1 rfl rfl) h1
  clear hA0 hval0
  refine (upper_walk W a0 w0 a1 w1).mono fun e W' ⟨he, bel⟩ => ?_
  subst he
  exact ⟨_, rfl, _, _, _, [], _, [], hW', trodAll_mk1 (shut_bool Try.underlying4 _), (trodAll_cons_mk (Go.ChangeMaps.shut_string Try.underlying9 w0) (trodAll_cons_mk (shut_int Try.underlying5 w1) (trodAll_mk0))), rfl, bel.frame _, fun h => by cases h⟩

/-- The statement CodeUpper. -/
theorem codeUpper_holds : Rows.CodeUpperSaid :=
  OpenClaim.holds_of_wide 4 Try.f4 rfl rfl rfl rfl rfl rfl rfl ⟨rfl, rfl, rfl, rfl, rfl⟩ rfl rfl rfl rfl rfl (by kernel_rfl) Try.func4 (by kernel_rfl)
    (of_decide_eq_true (by kernel_rfl)) (by unfold Func.isWrapper; first | (rw [if_pos (by decide +kernel)]; kernel_rfl) | (rw [if_neg (by decide +kernel)]; exact ⟨rfl, rfl⟩))
    (fun os started H enc _ => codeUpper_lifted os started H enc)
#print axioms codeUpper_holds

end Go.Proofs.Ytlghiaocakokiaa
