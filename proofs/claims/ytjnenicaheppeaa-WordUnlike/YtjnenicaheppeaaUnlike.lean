/- WordUnlike, for every input: two numbers have two unlike texts, neither the beginning of the other; no conditions. -/
import Derived.Test.YtjnenicaheppeaaFrame
import Derived.Test.YtjnenicaheppeaaBackm
import Derived.Deep.QuietTactic
import Derived.BigQuiet
namespace Go.Proofs.Ytjnenicaheppeaa
open Go.ChangeShapes Go.WideShapes Go.ChangeAt Go.RowKit
set_option linter.unusedVariables false

theorem var_nil (n : Nat) (w : World) (hn : n < 18446744073709551616) :
    Calls Try.prog 18 #[.slice none 0 0, .int .u64 (n : Int)] w fun e w' => e = .returned (.slice (some ⟨w.heap.size, 0, none⟩) (Wd.varL n).length (Wd.varL n).length) ∧
      Hid (Wd.Row w' w.heap.size (Wd.varL n)) ∧ Below w.heap.size w w' :=
  var_any none [] 0 0 n w (Wd.bts_nil w 0) (Nat.zero_le _) (by decide) hn

set_option maxHeartbeats 1000000 in
theorem unlike_core (w : World) (a b : Nat) (ha : a < 18446744073709551616) (hb : b < 18446744073709551616) (X Y : List UInt8) (hX : Wd.varL a = X) (hY : Wd.varL b = Y) (hx : X.length ≤ 10) (hy : Y.length ≤ 10) (hx1 : 1 ≤ X.length) (hy1 : 1 ≤ Y.length)
    (n : Nat) (hn : min (X.length : Int) (Y.length : Int) = (n : Int)) (hn0 : 0 < n) (hn1 : n ≤ X.length) (hn2 : n ≤ Y.length) (β : Bool) (hab : ((a : Int) == (b : Int)) = β) (hs : (X.take n == Y.take n) = β) :
    Calls Try.prog 8 #[.int .u64 (a : Int), .int .u64 (b : Int)] w fun e w' => e = .returned (.bool true) ∧ Below w.heap.size w w' := by
  have h1 := fun w => var_nil a w ha
  have h2 := fun w => var_nil b w hb
  rw [hX] at h1
  rw [hY] at h2
  have H1 := Lib.hid h1
  have H2 := Lib.hid h2
  clear h1 h2 hX hY
  go_enter Try.func8, Try.ntmps8
  go_wp2_with (go_at_call 10; refine (awake_any _).mono ?_; rintro e w1 ⟨rfl, hb1⟩)
  refine (H1.out w1).mono ?_
  rintro e w2 ⟨rfl, HR2, hb2⟩
  go_wp2_with fail
  refine (H2.out w2).mono ?_
  rintro e w3 ⟨rfl, HR3, hb3⟩
  have c1 : ∀ q, (convert 22 9 (.slice (some ⟨w1.heap.size, 0, none⟩) n X.length)).run Try.prog (w3.drewN q) = .ok (.string ⟨(X.take n).toArray⟩) (w3.drewN q) := fun q => by
    have := Wd.conv (w := w3.drewN q) (((HR2.out.below hb3 HR2.out.lt).bts HR2.out.lt).take n) X.length
    rwa [List.length_take, Nat.min_eq_left hn1] at this
  have c2 : ∀ q, (convert 22 9 (.slice (some ⟨w2.heap.size, 0, none⟩) n Y.length)).run Try.prog (w3.drewN q) = .ok (.string ⟨(Y.take n).toArray⟩) (w3.drewN q) := fun q => by
    have := Wd.conv (w := w3.drewN q) ((HR3.out.bts HR3.out.lt).take n) Y.length
    rwa [List.length_take, Nat.min_eq_left hn2] at this
  go_wp2_with fail
  go_quiet (fail)
  go_wp2
  go_ret
  exact ⟨rfl, Wd.below_drewN (hb1.trans ((hb2.trans (hb3.mono hb2.size)).mono hb1.size)) _⟩
theorem unlike_walk (w : World) (x : Int) (wx : (Lit.int .u64 x).wf = true) (y : Int) (wy : (Lit.int .u64 y).wf = true) :
    Calls Try.prog 8 #[.int .u64 x, .int .u64 y] w fun e w' => e = .returned (.bool true) ∧ Below w.heap.size w w' := by
  obtain ⟨x0, x1⟩ := bounds_u64 wx
  obtain ⟨y0, y1⟩ := bounds_u64 wy
  obtain ⟨a, rfl⟩ := Int.eq_ofNat_of_zero_le x0
  obtain ⟨b, rfl⟩ := Int.eq_ofNat_of_zero_le y0
  have ha : a < 18446744073709551616 := by omega
  have hb : b < 18446744073709551616 := by omega
  have la := Wd.length_varL a
  have lb := Wd.length_varL b
  have ba := Wd.vsz_bd a ha
  have bb := Wd.vsz_bd b hb
  refine unlike_core w a b ha hb _ _ rfl rfl (by omega) (by omega) (by omega) (by omega) (min (Wd.varL a).length (Wd.varL b).length) (by omega) (by omega) (by omega) (by omega) (decide (a = b)) ?_ ?_
  · by_cases h : a = b
    · subst h; simp
    · simp [h]; omega
  · by_cases h : a = b
    · subst h; simp
    · have := fun e => h (Wd.var_unlike a b ha hb _ rfl e)
      simp only [h, decide_false]
      exact beq_eq_false_iff_ne.2 this

set_option maxRecDepth 100000 in
theorem wordUnlike_lifted (os : Os) (started : os.Started) (H : Type) (enc : TypeId × Value → H) :
    ReturnsInHanded {} Try.checked os 8 .any (Rows.wordUnlikeSpec.pre6 enc Try.prog Try.f8 Rows.wordUnlikeRow.domain false) (Rows.wordUnlikeSpec.post enc Try.prog Try.f8 false true false false) := by
  refine returnsInHanded_of_change (C := Try.checked) own started (by kernel_rfl) Try.func8
    (ChangeSpec.witness6 (enc := enc) (C := Try.checked) false ⟨#[], #[.int .u64 0, .int .u64 0], []⟩ 8 (by kernel_rfl) (by kernel_rfl) (by kernel_rfl) (by kernel_rfl)) ?_
  intro W base args ds gs before hval0 hW hcnd _
  have hval : ∀ (j : Nat) t v, Try.f8.params[j]? = some t → args[j]? = some v → Value.okWide Try.prog W .any base t v := hval0
  have hW' := hW
  obtain ⟨p, q, hA0, hV, rfl, hfz, hnd⟩ := hW
  have hA : DataW.TrodAll enc Try.prog W 0 (fun _ => true) true Try.f8.params.toList args.toList ds p := hA0
  rw [Try.params8] at hA hval
  obtain ⟨v0, vs0, d0, ds0, p0, q0, hargs, rfl, rfl, h0, r0⟩ := trodAll_cons hA
  obtain ⟨v1, vs1, d1, ds1, p1, q1, rfl, rfl, rfl, h1, r1⟩ := trodAll_cons r0
  obtain ⟨rfl, rfl, rfl⟩ := trodAll_nil r1
  obtain rfl : args = #[v0, v1] := by cases args; simp_all
  obtain ⟨rfl, rfl⟩ := trodVars_none hV
  obtain ⟨a0, rfl, rfl, rfl, w0⟩ := open_int Try.underlying23 (hval 0 23 v0 rfl rfl) h0
  obtain ⟨a1, rfl, rfl, rfl, w1⟩ := open_int Try.underlying23 (hval 1 23 v1 rfl rfl) h1
  clear hA0 hval0
  refine (unlike_walk W a0 w0 a1 w1).mono fun e W' ⟨he, bel⟩ => ?_
  subst he
  exact ⟨_, rfl, _, _, _, [], _, [], hW', trodAll_mk1 (shut_bool Try.underlying4 _), (trodAll_cons_mk (shut_int Try.underlying23 w0) (trodAll_cons_mk (shut_int Try.underlying23 w1) (trodAll_mk0))), rfl, bel.frame _, fun h => by cases h⟩

/-- The statement WordUnlike. -/
theorem wordUnlike_holds : Rows.WordUnlikeSaid :=
  OpenClaim.holds_of_wide 8 Try.f8 rfl rfl rfl rfl rfl rfl rfl ⟨rfl, rfl, rfl, rfl, rfl⟩ rfl rfl rfl rfl rfl (by kernel_rfl) Try.func8 (by kernel_rfl)
    (of_decide_eq_true (by kernel_rfl)) (by unfold Func.isWrapper; first | (rw [if_pos (by decide +kernel)]; kernel_rfl) | (rw [if_neg (by decide +kernel)]; exact ⟨rfl, rfl⟩))
    (fun os started H enc _ => wordUnlike_lifted os started H enc)
#print axioms wordUnlike_holds

end Go.Proofs.Ytjnenicaheppeaa
