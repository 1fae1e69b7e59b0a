/- Contract of Check. -/
import Derived.Test.YtonfkonjkgalhaaDoorPlBlk
namespace Go.Proofs.YtonfkonjkgalhaaDoor
open Go.RowKit
set_option linter.unusedVariables false

theorem check_any (r : Pl.R) (B : Nat) (w : World) (hw : Pl.Wf r) (he : Pl.Ints w B r.eA r.p.ex) (hbl : Pl.Sts w B r.bA r.p.bl) (hB : B ≤ w.heap.size) :
    Calls Tryd.prog 17 #[Pl.pv r] w fun e w' => e = .returned (.int .i64 (Pl.code r.p)) ∧ Below w.heap.size w w' := by
  have HE : Hid (Pl.code r.p = if (Pl.rowsOk r.p && Pl.lettersOk r.p.lt && Pl.exitsOk r.p && Pl.blockedOk r.p) = true then 0 else 4) := show _ = _ by rfl
  have H1 := Lib.hid (fun w => rightRows_any r w)
  have H2 := Lib.hid (fun w => rightLetters_any r.p.lt w hw.s)
  have H3 : Hid (∀ w', Below w.heap.size w w' → _) := fun w' (hb : Below w.heap.size w w') => rightExits_any r B w' hw (he.below hb hB) (Nat.le_trans hB hb.size)
  have H4 : Hid (∀ w', Below w.heap.size w w' → _) := fun w' (hb : Below w.heap.size w w') => rightBlocked_any r B w' hw (hbl.below hb hB) (Nat.le_trans hB hb.size)
  have HPN := Lib.hid (Pl.Pc.new r w)
  generalize Pl.rowsOk r.p = q1 at *
  generalize Pl.lettersOk r.p.lt = q2 at *
  generalize Pl.exitsOk r.p = q3 at *
  generalize Pl.blockedOk r.p = q4 at *
  generalize Pl.code r.p = res at *
  clear hw he hbl
  obtain ⟨⟨fr, la, lt, ex, bl⟩, eA, ec, bA, bc⟩ := r
  unfold Pl.pv at *
  unfold Pl.Pc at *
  simp only at *
  obtain ⟨w1, ew1⟩ : ∃ w1, w1 = w.alloc (.cells #[.int .i64 fr, .int .i64 la, .string lt, .slice eA ex.length ec, .slice bA bl.length bc] 32) := ⟨_, rfl⟩
  have hb0 : Below w.heap.size w w1 := by rw [ew1]; exact (Below.refl w.heap.size w).alloc (Nat.le_refl _) _
  have hz1 : w.heap.size < w1.heap.size := by rw [ew1]; simp
  rw [← ew1] at HPN
  have HP : Hid (∀ w', Below w1.heap.size w1 w' → (w'.cell? ⟨w.heap.size, 0, none⟩ = some (.int .i64 fr) ∧ w'.cell? ⟨w.heap.size, 1, none⟩ = some (.int .i64 la) ∧ w'.cell? ⟨w.heap.size, 2, none⟩ = some (.string lt) ∧ w'.cell? ⟨w.heap.size, 3, none⟩ = some (.slice eA ex.length ec) ∧ w'.cell? ⟨w.heap.size, 4, none⟩ = some (.slice bA bl.length bc))) := fun w' hb => Pl.Pc.below (r := ⟨⟨fr, la, lt, ex, bl⟩, eA, ec, bA, bc⟩) HPN.out hb hz1
  obtain ⟨a0, a1, a2, a3, a4⟩ := HPN.out
  have HZ : Hid (∀ w', Below w1.heap.size w1 w' → Below w.heap.size w w') := fun w' hb => hb0.trans (hb.mono (Nat.le_of_lt hz1))
  cases q1
  · have HN : Hid (res = 4) := show _ = _ by rw [HE.out]; rfl
    subst ew1
    go_enter Tryd.func17, Tryd.ntmps17
    go_wp2_with (go_at_call 41; refine (H1.out _).mono ?_; rintro e w2 ⟨rfl, hb2⟩)
    go_ret
    exact ⟨Pl.ret_int HN.out.symm, HZ.out _ hb2⟩
  cases q2
  · have HN : Hid (res = 4) := show _ = _ by rw [HE.out]; rfl
    subst ew1
    go_enter Tryd.func17, Tryd.ntmps17
    go_wp2_with (first
      | (go_at_call 41; refine (H1.out _).mono ?_; rintro e w2 ⟨rfl, hb2⟩; obtain ⟨b0, b1, b2, b3, b4⟩ := HP.out w2 hb2)
      | (go_at_call 42; refine (H2.out _).mono ?_; rintro e w3 ⟨rfl, rfl⟩))
    go_ret
    exact ⟨Pl.ret_int HN.out.symm, HZ.out _ hb2⟩
  cases q3
  · have HN : Hid (res = 4) := show _ = _ by rw [HE.out]; rfl
    subst ew1
    go_enter Tryd.func17, Tryd.ntmps17
    go_wp2_with (first
      | (go_at_call 41; refine (H1.out _).mono ?_; rintro e w2 ⟨rfl, hb2⟩; obtain ⟨b0, b1, b2, b3, b4⟩ := HP.out w2 hb2)
      | (go_at_call 42; refine (H2.out _).mono ?_; rintro e w3 ⟨rfl, rfl⟩)
      | (go_at_call 43; refine (H3.out _ (HZ.out _ hb2)).mono ?_; rintro e w3 ⟨rfl, hb3⟩; have hb4 := hb2.trans (hb3.mono hb2.size); obtain ⟨c0, c1, c2, c3, c4⟩ := HP.out w3 hb4))
    go_ret
    exact ⟨Pl.ret_int HN.out.symm, HZ.out _ hb4⟩
  have HN : Hid (res = if q4 = true then 0 else 4) := show _ = _ by rw [HE.out]; simp
  cases q4
  · subst ew1
    go_enter Tryd.func17, Tryd.ntmps17
    go_wp2_with (first
      | (go_at_call 41; refine (H1.out _).mono ?_; rintro e w2 ⟨rfl, hb2⟩; obtain ⟨b0, b1, b2, b3, b4⟩ := HP.out w2 hb2)
      | (go_at_call 42; refine (H2.out _).mono ?_; rintro e w3 ⟨rfl, rfl⟩)
      | (go_at_call 43; refine (H3.out _ (HZ.out _ hb2)).mono ?_; rintro e w3 ⟨rfl, hb3⟩; have hb4 := hb2.trans (hb3.mono hb2.size); obtain ⟨c0, c1, c2, c3, c4⟩ := HP.out w3 hb4)
      | (go_at_call 44; refine (H4.out _ (HZ.out _ hb4)).mono ?_; rintro e w5 ⟨rfl, hb5⟩; have hb6 := hb4.trans (hb5.mono hb4.size)))
    go_ret
    exact ⟨Pl.ret_int HN.out.symm, HZ.out _ hb6⟩
  · subst ew1
    go_enter Tryd.func17, Tryd.ntmps17
    go_wp2_with (first
      | (go_at_call 41; refine (H1.out _).mono ?_; rintro e w2 ⟨rfl, hb2⟩; obtain ⟨b0, b1, b2, b3, b4⟩ := HP.out w2 hb2)
      | (go_at_call 42; refine (H2.out _).mono ?_; rintro e w3 ⟨rfl, rfl⟩)
      | (go_at_call 43; refine (H3.out _ (HZ.out _ hb2)).mono ?_; rintro e w3 ⟨rfl, hb3⟩; have hb4 := hb2.trans (hb3.mono hb2.size); obtain ⟨c0, c1, c2, c3, c4⟩ := HP.out w3 hb4)
      | (go_at_call 44; refine (H4.out _ (HZ.out _ hb4)).mono ?_; rintro e w5 ⟨rfl, hb5⟩; have hb6 := hb4.trans (hb5.mono hb4.size)))
    go_ret
    exact ⟨Pl.ret_int HN.out.symm, HZ.out _ hb6⟩
end Go.Proofs.YtonfkonjkgalhaaDoor
