/- CodeJoins, for every input: free texts put together with one blank between them are a free text just if they have no more than forty bytes, and both parts of a free text that is cut at a blank are free texts; no conditions. -/
import Derived.Test.YtlghiaocakokiaaAwake
import Derived.WalkSpells
namespace Go.Proofs.Ytlghiaocakokiaa
open Go.ChangeShapes Go.WideShapes Go.ChangeAt Go.RowKit
set_option linter.unusedVariables false

namespace Cd
theorem bs_append (a b : ByteArray) : bs (a ++ b) = bs a ++ bs b := by unfold bs; simp
theorem bs_extract (a : ByteArray) (i j : Nat) : bs (a.extract i j) = ((bs a).take j).drop i := by
  unfold bs
  rw [ByteArray.data_extract, Array.toList_extract]
  simp [List.extract, List.map_drop, List.map_take, List.drop_take]
theorem free_join {l m : List Int} (hl : free l = true) (hm : free m = true) : free (l ++ [32] ++ m) = decide ((l.length : Int) + 1 + (m.length : Int) ≤ 40) := by
  unfold free at *
  simp only [Bool.and_eq_true] at hl hm
  obtain ⟨_, h1, h2⟩ := hl
  obtain ⟨_, h3, h4⟩ := hm
  have e1 : chn 32 (l ++ [32] ++ m) = true := by
    rw [chn_append, chn_append, lst_append, h1]
    simp only [chn, lst, h3, ok]
    rw [bne_iff_ne] at h2
    simp [h2, isF]
  have e2 : lst 32 (l ++ [32] ++ m) = lst 32 m := by rw [lst_append, lst_append]; rfl
  rw [e1, e2, h4]
  simp
  omega
theorem free_cut {x y : List Int} (h : free (x ++ 32 :: y) = true) : free x = true ∧ free y = true := by
  unfold free at *
  simp only [Bool.and_eq_true, decide_eq_true_eq, List.length_append, List.length_cons] at h
  obtain ⟨h0, h1, h2⟩ := h
  rw [chn_append, Bool.and_eq_true, chn, Bool.and_eq_true] at h1
  obtain ⟨h3, h4, h5⟩ := h1
  have e2 : lst 32 (x ++ 32 :: y) = lst 32 y := by rw [lst_append]; rfl
  rw [e2] at h2
  have h6 : (lst 32 x != 32) = true := by
    rw [bne_iff_ne]
    intro e
    rw [ok, e] at h4
    simp at h4
  rw [decide_eq_true (by omega), decide_eq_true (by omega), h3, h5, h6, h2]
  exact ⟨rfl, rfl⟩
theorem split_at (s : ByteArray) (n : Nat) (h : n < s.size) (hc : bt s n = 32) : bs s = (bs s).take n ++ 32 :: (bs s).drop (n + 1) := by
  have h1 := take_succ s n h
  rw [hc] at h1
  have h2 := List.take_append_drop (n + 1) (bs s)
  rw [h1, List.append_assoc] at h2
  exact h2.symm
end Cd

theorem joins_longa (w : World) (a b : ByteArray) (cut : Int) (ha : a.size ≤ 9223372036854775807) (h : 20000 < a.size) :
    Calls Try.prog 6 #[.string a, .string b, .int .i64 cut] w fun e w' => e = .returned (.bool true) ∧ Below w.heap.size w w' := by
  go_enter Try.func6, Try.ntmps6
  go_wp2_with (first
    | (go_at_call 7; refine (awake_any _).mono ?_; rintro e w1 ⟨rfl, hb1⟩)
    | (go_at_call 8; refine (long_yes _ _ ha h).mono ?_; rintro e w' ⟨rfl, rfl⟩))
  go_ret
  exact ⟨rfl, hb1⟩
theorem joins_longb (w : World) (a b : ByteArray) (cut : Int) (ha : a.size ≤ 20000) (hb : b.size ≤ 9223372036854775807) (h : 20000 < b.size) :
    Calls Try.prog 6 #[.string a, .string b, .int .i64 cut] w fun e w' => e = .returned (.bool true) ∧ Below w.heap.size w w' := by
  go_enter Try.func6, Try.ntmps6
  go_wp2_with (go_at_call 7; refine (awake_any _).mono ?_; rintro e w1 ⟨rfl, hb1⟩)
  refine (long_no a _ ha).mono ?_
  rintro e w' ⟨rfl, rfl⟩
  go_wp2_with fail
  refine (long_yes b _ hb h).mono ?_
  rintro e w' ⟨rfl, rfl⟩
  go_wp2
  go_ret
  exact ⟨rfl, hb1⟩
theorem joins_no (w : World) (a b : ByteArray) (cut : Int) (ha : a.size ≤ 20000) (hb : b.size ≤ 20000) (fa : Cd.free (Cd.bs a) = false) :
    Calls Try.prog 6 #[.string a, .string b, .int .i64 cut] w fun e w' => e = .returned (.bool true) ∧ Below w.heap.size w w' := by
  go_enter Try.func6, Try.ntmps6
  go_wp2_with (first
    | (go_at_call 7; refine (awake_any _).mono ?_; rintro e w1 ⟨rfl, hb1⟩)
    | (go_at_call 8; refine (long_no _ _ ?_).mono ?_; (first | exact ha | exact hb); rintro e w' ⟨rfl, rfl⟩)
    | (go_at_call 19; refine (free_all _ _).mono ?_; rintro e w' ⟨rfl, rfl⟩))
  go_ret
  exact ⟨rfl, hb1⟩
/-- The ways of the second test: what stands at the cut. -/
theorem joins_yes (w : World) (a b : ByteArray) (cut : Int) (ha : a.size ≤ 20000) (hb : b.size ≤ 20000) (fa : Cd.free (Cd.bs a) = true)
    (x : Cd.free (Cd.bs b) = false ∨ (Cd.free (Cd.bs b) = true ∧ Cd.free (Cd.bs (a ++ { data := #[32] } ++ b)) = true ∧ (a.size : Int) + 1 + (b.size : Int) ≤ 40) ∨ (Cd.free (Cd.bs b) = true ∧ Cd.free (Cd.bs (a ++ { data := #[32] } ++ b)) = false ∧ 40 < (a.size : Int) + 1 + (b.size : Int)))
    (y : cut < 0 ∨ (0 ≤ cut ∧ (a.size : Int) ≤ cut)) :
    Calls Try.prog 6 #[.string a, .string b, .int .i64 cut] w fun e w' => e = .returned (.bool true) ∧ Below w.heap.size w w' := by
  rcases x with fb | ⟨fb, fs, hs⟩ | ⟨fb, fs, hs⟩ <;> rcases y with y0 | ⟨y0, y1⟩
  all_goals go_enter Try.func6, Try.ntmps6
  all_goals go_wp2_with (first
    | (go_at_call 7; refine (awake_any _).mono ?_; rintro e w1 ⟨rfl, hb1⟩)
    | (go_at_call 8; refine (long_no _ _ ?_).mono ?_; (first | exact ha | exact hb); rintro e w' ⟨rfl, rfl⟩)
    | (go_at_call 19; refine (free_all _ _).mono ?_; rintro e w' ⟨rfl, rfl⟩))
  all_goals go_ret
  all_goals exact ⟨rfl, hb1⟩
theorem joins_at (w : World) (a b : ByteArray) (n : Nat) (ha : a.size ≤ 20000) (hb : b.size ≤ 20000) (fa : Cd.free (Cd.bs a) = true)
    (x : Cd.free (Cd.bs b) = false ∨ (Cd.free (Cd.bs b) = true ∧ Cd.free (Cd.bs (a ++ { data := #[32] } ++ b)) = true ∧ (a.size : Int) + 1 + (b.size : Int) ≤ 40) ∨ (Cd.free (Cd.bs b) = true ∧ Cd.free (Cd.bs (a ++ { data := #[32] } ++ b)) = false ∧ 40 < (a.size : Int) + 1 + (b.size : Int)))
    (hn : n < a.size) (hc : (Cd.bt a n == 32) = false) :
    Calls Try.prog 6 #[.string a, .string b, .int .i64 (n : Int)] w fun e w' => e = .returned (.bool true) ∧ Below w.heap.size w w' := by
  have hx := Cd.get_bt a
  have hd := Cd.ne_of hc
  rcases x with fb | ⟨fb, fs, hs⟩ | ⟨fb, fs, hs⟩
  all_goals go_enter Try.func6, Try.ntmps6
  all_goals go_wp2_with (first
    | (go_at_call 7; refine (awake_any _).mono ?_; rintro e w1 ⟨rfl, hb1⟩)
    | (go_at_call 8; refine (long_no _ _ ?_).mono ?_; (first | exact ha | exact hb); rintro e w' ⟨rfl, rfl⟩)
    | (go_at_call 19; refine (free_all _ _).mono ?_; rintro e w' ⟨rfl, rfl⟩))
  all_goals go_ret
  all_goals exact ⟨rfl, hb1⟩
theorem joins_cut (w : World) (a b : ByteArray) (n : Nat) (ha : a.size ≤ 20000) (hb : b.size ≤ 20000) (fa : Cd.free (Cd.bs a) = true)
    (x : Cd.free (Cd.bs b) = false ∨ (Cd.free (Cd.bs b) = true ∧ Cd.free (Cd.bs (a ++ { data := #[32] } ++ b)) = true ∧ (a.size : Int) + 1 + (b.size : Int) ≤ 40) ∨ (Cd.free (Cd.bs b) = true ∧ Cd.free (Cd.bs (a ++ { data := #[32] } ++ b)) = false ∧ 40 < (a.size : Int) + 1 + (b.size : Int)))
    (hn : n < a.size) (hc : (Cd.bt a n == 32) = true) (f1 : Cd.free (Cd.bs (a.extract 0 n)) = true) (f2 : Cd.free (Cd.bs (a.extract (n + 1) a.size)) = true) :
    Calls Try.prog 6 #[.string a, .string b, .int .i64 (n : Int)] w fun e w' => e = .returned (.bool true) ∧ Below w.heap.size w w' := by
  have hx := Cd.get_bt a
  have hd := Cd.ne_of hc
  have e1 : ((n : Int) + 1).toNat = n + 1 := by omega
  rcases x with fb | ⟨fb, fs, hs⟩ | ⟨fb, fs, hs⟩
  all_goals go_enter Try.func6, Try.ntmps6
  all_goals go_wp2_with (first
    | (go_at_call 7; refine (awake_any _).mono ?_; rintro e w1 ⟨rfl, hb1⟩)
    | (go_at_call 8; refine (long_no _ _ ?_).mono ?_; (first | exact ha | exact hb); rintro e w' ⟨rfl, rfl⟩)
    | (go_at_call 19; refine (free_all _ _).mono ?_; rintro e w' ⟨rfl, rfl⟩))
  all_goals go_ret
  all_goals exact ⟨by simp, hb1⟩
theorem joins_walk (w : World) (a : ByteArray) (wa : a.size ≤ maxLen) (b : ByteArray) (wb : b.size ≤ maxLen) (cut : Int) (wc : (Lit.int .i64 cut).wf = true) :
    Calls Try.prog 6 #[.string a, .string b, .int .i64 cut] w fun e w' => e = .returned (.bool true) ∧ Below w.heap.size w w' := by
  unfold maxLen at wa wb
  rcases Nat.lt_or_ge 20000 a.size with ha | ha
  · exact joins_longa w a b cut wa ha
  rcases Nat.lt_or_ge 20000 b.size with hb | hb
  · exact joins_longb w a b cut ha wb hb
  cases fa : Cd.free (Cd.bs a) with
  | false => exact joins_no w a b cut ha hb fa
  | true =>
    have x : Cd.free (Cd.bs b) = false ∨ (Cd.free (Cd.bs b) = true ∧ Cd.free (Cd.bs (a ++ { data := #[32] } ++ b)) = true ∧ (a.size : Int) + 1 + (b.size : Int) ≤ 40) ∨ (Cd.free (Cd.bs b) = true ∧ Cd.free (Cd.bs (a ++ { data := #[32] } ++ b)) = false ∧ 40 < (a.size : Int) + 1 + (b.size : Int)) := by
      cases fb : Cd.free (Cd.bs b) with
      | false => exact .inl rfl
      | true =>
        have hj := Cd.free_join fa fb
        rw [Cd.length_bs, Cd.length_bs] at hj
        have e : Cd.bs (a ++ { data := #[32] } ++ b) = Cd.bs a ++ [32] ++ Cd.bs b := by rw [Cd.bs_append, Cd.bs_append]; rfl
        rw [← e] at hj
        rcases Int.lt_or_le 40 ((a.size : Int) + 1 + (b.size : Int)) with h | h
        · rw [decide_eq_false (by omega)] at hj
          exact .inr (.inr ⟨rfl, hj, h⟩)
        · rw [decide_eq_true h] at hj
          exact .inr (.inl ⟨rfl, hj, h⟩)
    rcases (show cut < 0 ∨ (0 ≤ cut ∧ (a.size : Int) ≤ cut) ∨ (0 ≤ cut ∧ cut < (a.size : Int)) by omega) with y | y | ⟨y0, y1⟩
    · exact joins_yes w a b cut ha hb fa x (.inl y)
    · exact joins_yes w a b cut ha hb fa x (.inr y)
    · obtain ⟨n, rfl⟩ := Int.eq_ofNat_of_zero_le y0
      have hn : n < a.size := by omega
      cases hc : (Cd.bt a n == 32) with
      | false => exact joins_at w a b n ha hb fa x hn hc
      | true =>
        have hs := Cd.split_at a n hn (beq_iff_eq.1 hc)
        rw [hs] at fa
        obtain ⟨f1, f2⟩ := Cd.free_cut fa
        refine joins_cut w a b n ha hb (by rw [hs]; exact fa) x hn hc ?_ ?_
        · rw [Cd.bs_extract, List.drop_zero]; exact f1
        · rw [Cd.bs_extract, Cd.take_all]; exact f2

set_option maxRecDepth 100000 in
theorem codeJoins_lifted (os : Os) (started : os.Started) (H : Type) (enc : TypeId × Value → H) :
    ReturnsInHanded {} Try.checked os 6 .any (Rows.codeJoinsSpec.pre6 enc Try.prog Try.f6 Rows.codeJoinsRow.domain false) (Rows.codeJoinsSpec.post enc Try.prog Try.f6 false true false false) := by
  refine returnsInHanded_of_change (C := Try.checked) own started (by kernel_rfl) Try.func6
    (ChangeSpec.witness6 (enc := enc) (C := Try.checked) false ⟨#[], #[.string ⟨#[]⟩, .string ⟨#[]⟩, .int .i64 0], []⟩ 8 (by kernel_rfl) (by kernel_rfl) (by kernel_rfl) (by kernel_rfl)) ?_
  intro W base args ds gs before hval0 hW hcnd _
  have hval : ∀ (j : Nat) t v, Try.f6.params[j]? = some t → args[j]? = some v → Value.okWide Try.prog W .any base t v := hval0
  have hW' := hW
  obtain ⟨p, q, hA0, hV, rfl, hfz, hnd⟩ := hW
  have hA : DataW.TrodAll enc Try.prog W 0 (fun _ => true) true Try.f6.params.toList args.toList ds p := hA0
  rw [Try.params6] at hA hval
  obtain ⟨v0, vs0, d0, ds0, p0, q0, hargs, rfl, rfl, h0, r0⟩ := trodAll_cons hA
  obtain ⟨v1, vs1, d1, ds1, p1, q1, rfl, rfl, rfl, h1, r1⟩ := trodAll_cons r0
  obtain ⟨v2, vs2, d2, ds2, p2, q2, rfl, rfl, rfl, h2, r2⟩ := trodAll_cons r1
  obtain ⟨rfl, rfl, rfl⟩ := trodAll_nil r2
  obtain rfl : args = #[v0, v1, v2] := by cases args; simp_all
  obtain ⟨rfl, rfl⟩ := trodVars_none hV
  obtain ⟨a0, rfl, rfl, rfl, w0⟩ := Go.ChangeMaps.open_string Try.underlying9 (hval 0 9 v0 rfl rfl) h0
  obtain ⟨a1, rfl, rfl, rfl, w1⟩ := Go.ChangeMaps.open_string Try.underlying9 (hval 1 9 v1 rfl rfl) h1
  obtain ⟨a2, rfl, rfl, rfl, w2⟩ := open_int Try.underlying3 (hval 2 3 v2 rfl rfl) h2
  clear hA0 hval0
  refine (joins_walk W a0 w0 a1 w1 a2 w2).mono fun e W' ⟨he, bel⟩ => ?_
  subst he
  exact ⟨_, rfl, _, _, _, [], _, [], hW', trodAll_mk1 (shut_bool Try.underlying4 _), (trodAll_cons_mk (Go.ChangeMaps.shut_string Try.underlying9 w0) (trodAll_cons_mk (Go.ChangeMaps.shut_string Try.underlying9 w1) (trodAll_cons_mk (shut_int Try.underlying3 w2) (trodAll_mk0)))), rfl, bel.frame _, fun h => by cases h⟩

/-- The statement CodeJoins. -/
theorem codeJoins_holds : Rows.CodeJoinsSaid :=
  OpenClaim.holds_of_wide 6 Try.f6 rfl rfl rfl rfl rfl rfl rfl ⟨rfl, rfl, rfl, rfl, rfl⟩ rfl rfl rfl rfl rfl (by kernel_rfl) Try.func6 (by kernel_rfl)
    (of_decide_eq_true (by kernel_rfl)) (by unfold Func.isWrapper; first | (rw [if_pos (by decide +kernel)]; kernel_rfl) | (rw [if_neg (by decide +kernel)]; exact ⟨rfl, rfl⟩))
    (fun os started H enc _ => codeJoins_lifted os started H enc)
#print axioms codeJoins_holds

end Go.Proofs.Ytlghiaocakokiaa
