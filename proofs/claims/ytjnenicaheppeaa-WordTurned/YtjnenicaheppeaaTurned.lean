/- WordTurned, for every input: bytes of which one was turned have another check sum; no conditions. -/
import Derived.Test.YtjnenicaheppeaaApp
namespace Go.Proofs.Ytjnenicaheppeaa
open Go.ChangeShapes Go.WideShapes Go.ChangeAt Go.RowKit
set_option linter.unusedVariables false

namespace Wd
theorem xor8 (a x : UInt8) : bits .xor .u8 (a.toNat : Int) (x.toNat : Int) = ((a ^^^ x).toNat : Int) := by
  rw [u8_xor_nat _ _ a.toNat_lt x.toNat_lt, UInt8.toNat_xor]
theorem turned (l : List UInt8) (k : Nat) (hk : k < l.length) (x : UInt8) : (crc (l.set k (l[k] ^^^ x)) = crc l) ↔ x = 0 := by
  have e1 : l.set k (l[k] ^^^ x) = l.take k ++ (l[k] ^^^ x) :: l.drop (k + 1) := by rw [List.set_eq_take_append_cons_drop, if_pos hk]
  have e2 : l = l.take k ++ l[k] :: l.drop (k + 1) := by
    conv => lhs; rw [← List.take_append_drop k l, List.drop_eq_getElem_cons hk]
  rw [e1]
  conv => lhs; rhs; rw [e2]
  rw [crc_turn]
  constructor
  · intro h
    have := congrArg (fun t => l[k] ^^^ t) h
    simp only [← UInt8.xor_assoc, UInt8.xor_self, UInt8.zero_xor] at this
    exact this
  · intro h
    rw [h]
    simp
end Wd

set_option maxHeartbeats 1000000 in
theorem turned_core (w : World) (A : Option Addr) (l : List UInt8) (c : Nat) (hB : Wd.Bts w w.heap.size A l) (hl : l.length ≤ 20000) (hn : A = none → c = 0) (k : Nat) (hk : k < l.length) (x y : UInt8) (β : Bool)
    (hy : l[k] ^^^ x = y) (hx : ((x.toNat : Int) == 0) = β) (hc : ((Wd.crc (l.set k y) : Int) == (Wd.crc l : Int)) = β) :
    Calls Try.prog 9 #[.slice A l.length c, .int .i64 (k : Int), .int .u8 (x.toNat : Int)] w fun e w' => e = .returned (.bool true) ∧ Below w.heap.size w w' := by
  have H := Lib.hid hB
  have HN := Lib.hid hn
  have hx8 := Wd.xor8 l[k] x
  rw [hy] at hx8
  obtain ⟨lk, hlk⟩ : ∃ lk, lk = l[k] := ⟨_, rfl⟩
  rw [← hlk] at hx8
  have HLK := Lib.hid hlk
  have hlen : (l.set k y).length = l.length := List.length_set
  have HLEN := Lib.hid hlen
  obtain ⟨s1, hs1⟩ : ∃ s1, Wd.crc (l.set k y) = s1 := ⟨_, rfl⟩
  rw [hs1] at hc
  have HS1 := Lib.hid hs1
  have hk0 : (0 : Int) ≤ k := by omega
  clear hB hn hy hlk hlen hs1
  go_enter Try.func9, Try.ntmps9
  go_wp2_with (first
    | (go_at_call 10; refine (awake_any _).mono ?_; rintro e w1 ⟨rfl, hb1⟩)
    | (go_at_call 11; refine (long_no _ _ _ _ hl).mono ?_; rintro e w' ⟨rfl, rfl⟩)
    | (at_builtin; have hb1a := hb1.alloc hb1.size (.cells #[] 5); refine Wd.wpList_append8 rfl (.tmp 22) (.tmp 23) rfl w.heap.size w.heap.size _ [] l l rfl (Wd.OwnV.empty w1 _ hb1.size) A c rfl HN.out (H.out.below hb1a) rfl (by omega) hb1a.size ?_; intro A2 c2 w2 HO hb2; obtain ⟨g, hA2, hg1, hg2⟩ := HO.out.at_ (by omega); subst hA2; have hcl := HO.out.cell k hk; rw [← HLK.out] at hcl; have hfr := HO.out.free k))
  have hbw2 := hb1a.trans hb2
  have HO2 := HO.out.set k y
  have hbw3 := hbw2.setCell (p := ⟨g, k, none⟩) hg1 (.int .u8 (y.toNat : Int))
  have hsum := sum_one (w2.setCell ⟨g, k, none⟩ (.int .u8 (y.toNat : Int))) _ (l.set k y) c2 _ l.length w2.heap.size (Wd.OwnV.bts (cap := c2) (by rw [HLEN.out]; exact HO2)) (Nat.le_refl _) (by rw [HLEN.out]; omega) HLEN.out (by simp [World.setCell])
  rw [HS1.out] at hsum
  refine hsum.mono ?_
  rintro e w3 ⟨rfl, HW3⟩
  have hb3 : Below w.heap.size w w3 := HW3.out ▸ hbw3.alloc hbw3.size _
  clear hsum HW3 HO2 hbw3 hcl hfr HO hb2 hbw2 hb1a
  go_wp2_with (go_at_call 23; refine (sum_one w3 A l c w.heap.size l.length w3.heap.size (H.out.below hb3) hb3.size (by omega) rfl rfl).mono ?_; rintro e w4 ⟨rfl, HW4⟩)
  go_ret
  exact ⟨rfl, HW4.out ▸ hb3.alloc hb3.size _⟩
theorem turned_walk (w : World) (A : Option Addr) (l : List UInt8) (c : Nat) (hB : Wd.Bts w w.heap.size A l) (hl : l.length ≤ maxLen) (hn : A = none → c = 0) (_hlc : l.length ≤ c) (a : Int) (wa : (Lit.int .i64 a).wf = true) (x : Int) (wx : (Lit.int .u8 x).wf = true) :
    Calls Try.prog 9 #[.slice A l.length c, .int .i64 a, .int .u8 x] w fun e w' => e = .returned (.bool true) ∧ Below w.heap.size w w' := by
  obtain ⟨a0, a1⟩ := bounds_i64 wa
  obtain ⟨x0, x1⟩ := bounds_u8 wx
  unfold maxLen at hl
  clear wa wx
  by_cases h1 : l.length ≤ 20000
  · by_cases h2 : a < 0
    · clear hB hn
      go_enter Try.func9, Try.ntmps9
      go_wp2_with (first
        | (go_at_call 10; refine (awake_any _).mono ?_; rintro e w1 ⟨rfl, hb1⟩)
        | (go_at_call 11; refine (long_no _ _ _ _ h1).mono ?_; rintro e w' ⟨rfl, rfl⟩))
      go_ret
      exact ⟨rfl, hb1⟩
    · by_cases h3 : (l.length : Int) ≤ a
      · clear hB hn
        go_enter Try.func9, Try.ntmps9
        go_wp2_with (first
          | (go_at_call 10; refine (awake_any _).mono ?_; rintro e w1 ⟨rfl, hb1⟩)
          | (go_at_call 11; refine (long_no _ _ _ _ h1).mono ?_; rintro e w' ⟨rfl, rfl⟩))
        go_ret
        exact ⟨rfl, hb1⟩
      · obtain ⟨k, rfl⟩ := Int.eq_ofNat_of_zero_le (show 0 ≤ a by omega)
        have hx : x = ((UInt8.ofNat x.toNat).toNat : Int) := by simp [UInt8.toNat_ofNat']; omega
        rw [hx]
        generalize UInt8.ofNat x.toNat = y
        have hk : k < l.length := by omega
        refine turned_core w A l c hB h1 hn k hk y _ (decide (y = 0)) rfl ?_ ?_
        · by_cases h : y = 0
          · subst h; simp
          · have hn0 : y.toNat ≠ 0 := fun e => h (UInt8.toNat_inj.1 (by simpa using e))
            simp only [h, decide_false]
            exact beq_eq_false_iff_ne.2 (by omega)
        · have ht := Wd.turned l k hk y
          by_cases h : y = 0
          · simp only [h, decide_true]
            exact beq_iff_eq.2 (by rw [← h]; exact congrArg _ (ht.2 h))
          · simp only [h, decide_false]
            exact beq_eq_false_iff_ne.2 (fun e => h (ht.1 (by omega)))
  · clear hB hn
    go_enter Try.func9, Try.ntmps9
    go_wp2_with (first
      | (go_at_call 10; refine (awake_any _).mono ?_; rintro e w1 ⟨rfl, hb1⟩)
      | (go_at_call 11; refine (long_yes _ _ _ _ hl (by omega)).mono ?_; rintro e w' ⟨rfl, rfl⟩))
    go_ret
    exact ⟨rfl, hb1⟩

set_option maxRecDepth 100000 in
theorem wordTurned_lifted (os : Os) (started : os.Started) (H : Type) (enc : TypeId × Value → H) :
    ReturnsInHanded {} Try.checked os 9 .any (Rows.wordTurnedSpec.pre6 enc Try.prog Try.f9 Rows.wordTurnedRow.domain false) (Rows.wordTurnedSpec.post enc Try.prog Try.f9 false true false false) := by
  refine returnsInHanded_of_change (C := Try.checked) own started (by kernel_rfl) Try.func9
    (ChangeSpec.witness6 (enc := enc) (C := Try.checked) false ⟨#[], #[.slice none 0 0, .int .i64 0, .int .u8 0], []⟩ 8 (by kernel_rfl) (by kernel_rfl) (by kernel_rfl) (by kernel_rfl)) ?_
  intro W base args ds gs before hval0 hW hcnd _
  have hval : ∀ (j : Nat) t v, Try.f9.params[j]? = some t → args[j]? = some v → Value.okWide Try.prog W .any base t v := hval0
  have hW' := hW
  obtain ⟨p, q, hA0, hV, rfl, hfz, hnd⟩ := hW
  have hA : DataW.TrodAll enc Try.prog W 0 (fun _ => true) true Try.f9.params.toList args.toList ds p := hA0
  rw [Try.params9] at hA hval
  obtain ⟨v0, vs0, d0, ds0, p0, q0, hargs, rfl, rfl, h0, r0⟩ := trodAll_cons hA
  obtain ⟨v1, vs1, d1, ds1, p1, q1, rfl, rfl, rfl, h1, r1⟩ := trodAll_cons r0
  obtain ⟨v2, vs2, d2, ds2, p2, q2, rfl, rfl, rfl, h2, r2⟩ := trodAll_cons r1
  obtain ⟨rfl, rfl, rfl⟩ := trodAll_nil r2
  obtain rfl : args = #[v0, v1, v2] := by cases args; simp_all
  obtain ⟨rfl, rfl⟩ := trodVars_none hV
  obtain ⟨a0, len0, cap0, rfl⟩ := okWide_slice Try.underlying22 (hval 0 22 v0 rfl rfl)
  have k0 := h0
  have lt0 : ∀ x ∈ p0, x.block < W.heap.size := by obtain ⟨m, hm⟩ := k0; exact DataW.trod_lt m _ _ _ hm
  obtain ⟨l0, rfl, b0, m0, n0, t0⟩ := Wd.open_bytes h0
  obtain ⟨a1, rfl, rfl, rfl, w1⟩ := open_int Try.underlying3 (hval 1 3 v1 rfl rfl) h1
  obtain ⟨a2, rfl, rfl, rfl, w2⟩ := open_int Try.underlying5 (hval 2 5 v2 rfl rfl) h2
  clear hA0 hval0
  refine (turned_walk W a0 l0 cap0 b0 m0 n0 t0 a1 w1 a2 w2).mono fun e W' ⟨he, bel⟩ => ?_
  subst he
  exact ⟨_, rfl, _, _, _, [], _, [], hW', trodAll_mk1 (shut_bool Try.underlying4 _), (trodAll_cons_mk (Below.trod laidOut (by kernel_rfl) (of_decide_eq_true (by kernel_rfl)) k0 bel lt0) (trodAll_cons_mk (shut_int Try.underlying3 w1) (trodAll_cons_mk (shut_int Try.underlying5 w2) (trodAll_mk0)))), rfl, bel.frame _, fun h => by cases h⟩

/-- The statement WordTurned. -/
theorem wordTurned_holds : Rows.WordTurnedSaid :=
  OpenClaim.holds_of_wide 9 Try.f9 rfl rfl rfl rfl rfl rfl rfl ⟨rfl, rfl, rfl, rfl, rfl⟩ rfl rfl rfl rfl rfl (by kernel_rfl) Try.func9 (by kernel_rfl)
    (of_decide_eq_true (by kernel_rfl)) (by unfold Func.isWrapper; first | (rw [if_pos (by decide +kernel)]; kernel_rfl) | (rw [if_neg (by decide +kernel)]; exact ⟨rfl, rfl⟩))
    (fun os started H enc _ => wordTurned_lifted os started H enc)
#print axioms wordTurned_holds

end Go.Proofs.Ytjnenicaheppeaa
