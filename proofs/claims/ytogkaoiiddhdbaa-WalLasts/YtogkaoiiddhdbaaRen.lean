/- Contract of Renew. -/
import Derived.Test.YtogkaoiiddhdbaaOpn
import Derived.Deep.RegionWith
namespace Go.Proofs.Ytogkaoiiddhdbaa
open Go.RowKit

namespace Wl
/-- The log at q has gone on. -/
def Went (w : World) (q p : Nat) (FD R : Nat → Prop) (t : L) (w' : World) : Prop := ∃ FD' R' v', LgAt w' q p FD' R' v' t ∧ Dk.Fr (FF q FD R) w w' ∧ (∀ k, FD' k → FD k ∨ w.heap.size ≤ k) ∧ (∀ k, R' k → R k ∨ w.heap.size ≤ k)
theorem Went.same {w : World} {q p : Nat} {FD R : Nat → Prop} {v : Value} {t : L} (h : LgAt w q p FD R v t) : Went w q p FD R t w := ⟨FD, R, v, h, Dk.Fr.refl _ _, fun _ h => .inl h, fun _ h => .inl h⟩
theorem Went.below {w w' : World} {q p : Nat} {FD R : Nat → Prop} {v : Value} {t : L} (h : LgAt w q p FD R v t) (hb : Below w.heap.size w w') : Went w q p FD R t w' := ⟨FD, R, v, h.below hb, Dk.Fr.of_below hb, fun _ h => .inl h, fun _ h => .inl h⟩
end Wl

set_option maxHeartbeats 1000000 in
theorem renew_any (w : World) (q p : Nat) (FD R G : Nat → Prop) (v : Value) (t : Wl.L) (A : Option Addr) (c : Nat) (ps : List (List UInt8)) (h : Wl.LgAt w q p FD R v t) (hP : Wl.Prts w G A ps) (hok : Dk.Ok t.d 50000) (hg : t.g < 4294967296) (hn : ps.length ≤ 900000) (hl : ∀ j (hj : j < ps.length), ps[j].length ≤ 9223372036854775807) :
    Calls Try.prog 23 #[.pointer (some ⟨q, 0, none⟩), .slice A ps.length c] w fun e w' => e = .returned (.int .i64 (t.rcode ps)) ∧ Hid (Wl.Went w q p FD R (t.renew ps) w') := by
  have c0 := h.c0
  have c1 := h.c1
  have c4 := h.c4
  have HH := Lib.hid h
  have HP := Lib.hid hP
  have HS := Lib.hid (Wl.Went.same h)
  have HTL := Lib.hid (anyTooLong_any w A ps c G hP (by omega) hl)
  unfold Wl.L.rcode Wl.L.renew
  by_cases hc : t.closed = true
  · rw [if_pos hc, if_pos hc]
    rw [hc] at c4
    clear hc
    go_enter Try.func23, Try.ntmps23
    go_wp2
    go_ret
    exact ⟨rfl, HS⟩
  · rw [if_neg hc, if_neg hc]
    have hcf : t.closed = false := by simpa using hc
    rw [hcf] at c4
    by_cases h2 : ps.any (fun b => decide (8192 < b.length)) = true
    · rw [if_pos h2, if_pos h2]
      rw [h2] at HTL
      clear hc hcf h2
      go_enter Try.func23, Try.ntmps23
      go_wp2_with (go_at_call 54; refine HTL.out.mono ?_; rintro e w1 ⟨rfl, rfl⟩)
      go_ret
      exact ⟨rfl, HS⟩
    · rw [if_neg h2, if_neg h2]
      have h2f : ps.any (fun b => decide (8192 < b.length)) = false := by simpa using h2
      rw [h2f] at HTL
      have hl8 : ∀ j (hj : j < ps.length), ps[j].length ≤ 8192 := fun j hj => by
        have := List.any_eq_false.1 h2f ps[j] (List.getElem_mem hj)
        simpa using this
      obtain ⟨N, hN⟩ : ∃ N : Nat, t.d.n = (N : Int) := ⟨t.d.n.toNat, by have := hok.n0; omega⟩
      have hN4 : N ≤ 4096 := by have := hok.n1; omega
      have hNt : t.d.n.toNat = N := by rw [hN]; simp
      rw [hNt]
      have HNA : Hid (∀ w1, (∀ k : Nat, w1.heap[k]? = w.heap[k]?) → Calls Try.prog 55 #[.slice A ps.length c] w1 fun e w' => e = .returned (.int .i64 (Wl.needs ps : Int)) ∧ w1 = w') := fun w1 hw1 => needAll_any w1 A ps c G (HP.out.kept (fun k _ => hw1 k)) (by omega) hl8
      have HSZ : Hid (∀ w1, (∀ k : Nat, w1.heap[k]? = w.heap[k]?) → Calls Try.prog 48 #[.pointer (some ⟨p, 0, none⟩)] w1 fun e w' => e = .returned (.int .i64 (N : Int)) ∧ w1 = w') := fun w1 hw1 => by
        obtain ⟨a, c, v, hA, _⟩ := h.dsk.kept (w' := w1) (fun k _ => hw1 k)
        have := size_any w1 p a c v t.d hA
        rw [hN] at this
        exact this
      have HAR := Lib.hid (fun w1 => area_any N w1 (by omega))
      have har : Wl.area N ≤ 4096 := by unfold Wl.area; omega
      have hnd0 : Wl.needs ps ≤ 17 * ps.length := by
        have : ∀ l : List (List UInt8), (∀ x ∈ l, x.length ≤ 8192) → Wl.needs l ≤ 17 * l.length := by
          intro l
          induction l with
          | nil => intro _; simp [Wl.needs_nil]
          | cons x l ih =>
            intro hx
            rw [Wl.needs_cons, List.length_cons]
            have h1 := ih (fun y hy => hx y (by simp [hy]))
            have h2 := hx x (by simp)
            have h3 : Wl.need x.length ≤ 17 := by unfold Wl.need; omega
            omega
        exact this ps (fun x hx => by
          obtain ⟨j, hj, rfl⟩ := List.getElem_of_mem hx
          exact hl8 j hj)
      clear hc hcf h2 h2f
      by_cases h3 : Wl.area N < Wl.needs ps
      · rw [if_pos h3, if_pos h3]
        have h3i : (Wl.area N : Int) < (Wl.needs ps : Int) := by omega
        have HS2 : Hid (∀ n, Wl.Went w q p FD R t (w.drewN n)) := fun n => Wl.Went.below h ⟨rfl, rfl, rfl, Nat.le_refl _, fun _ _ => rfl⟩
        clear h hP
        generalize Wl.needs ps = nd at *
        generalize Wl.area N = ar at *
        go_enter Try.func23, Try.ntmps23
        go_wp2_with (go_at_call 54; refine HTL.out.mono ?_; rintro e w1 ⟨rfl, rfl⟩)
        go_quiet ((first
          | (go_at_call 55; refine Calls.quiet_of_same ((HNA.out _ (by intro _; rfl)).mono fun _ _ h => ⟨h.1, h.2.symm⟩))
          | (go_at_call 48; refine Calls.quiet_of_same ((HSZ.out _ (by intro _; rfl)).mono fun _ _ h => ⟨h.1, h.2.symm⟩))
          | (go_at_call 13; refine Calls.quiet_of_same ((HAR.out _).mono fun _ _ h => ⟨h.1, h.2.symm⟩))))
        go_wp2
        go_ret
        exact ⟨rfl, HS2.out _⟩
      · rw [if_neg h3, if_neg h3]
        have h3i : ¬ (Wl.area N : Int) < (Wl.needs ps : Int) := by omega
        have HS2 : Hid (∀ n, Wl.Went w q p FD R t (w.drewN n)) := fun n => Wl.Went.below h ⟨rfl, rfl, rfl, Nat.le_refl _, fun _ _ => rfl⟩
        have hnd1 : Wl.needs ps ≤ 5000 := by omega
        have HND := Lib.hid hnd1
        by_cases h4 : t.g = 4294967295
        · rw [if_pos h4, if_pos h4]
          have c1' : w.cell? ⟨q, 1, none⟩ = some (.int .u32 4294967295) := by rw [c1, h4]; rfl
          clear h hP c1 h4
          generalize Wl.needs ps = nd at *
          generalize Wl.area N = ar at *
          go_enter Try.func23, Try.ntmps23
          go_wp2_with (go_at_call 54; refine HTL.out.mono ?_; rintro e w1 ⟨rfl, rfl⟩)
          go_quiet ((first
            | (go_at_call 55; refine Calls.quiet_of_same ((HNA.out _ (by intro _; rfl)).mono fun _ _ h => ⟨h.1, h.2.symm⟩))
            | (go_at_call 48; refine Calls.quiet_of_same ((HSZ.out _ (by intro _; rfl)).mono fun _ _ h => ⟨h.1, h.2.symm⟩))
            | (go_at_call 13; refine Calls.quiet_of_same ((HAR.out _).mono fun _ _ h => ⟨h.1, h.2.symm⟩))))
          go_wp2
          go_ret
          exact ⟨rfl, HS2.out _⟩
        · rw [if_neg h4, if_neg h4]
          have h4b : (((t.g : Int)) == 4294967295) = false := beq_eq_false_iff_ne.2 (by omega)
          have hg1 : t.g + 1 < 4294967296 := by omega
          have HCA : Hid (∀ w1, (∀ k : Nat, w1.heap[k]? = w.heap[k]?) → Calls Try.prog 57 #[.slice A ps.length c] w1 fun e w' => Wl.NewR w1 ps e w') := fun w1 hw1 => cloneAll_any w1 A ps c G (HP.out.kept (fun k _ => hw1 k)) hn (fun j hj => by have := hl8 j hj; omega)
          have HBG : Hid (∀ (w1 w2 : World) A2 c2, w1.heap.size = w.heap.size → Below w.heap.size w w1 → Wl.Rws w2 w1.heap.size (.slice A2 ps.length c2) ps → Below w1.heap.size w1 w2 →
              Calls Try.prog 56 #[.pointer (some ⟨q, 0, none⟩), .int .u32 ((t.g : Int) + 1), .slice A2 ps.length c2] w2 fun e w' => e = .returned (.int .i64 (Wl.begin_ t.d (t.g + 1) ps).2) ∧ Hid (Wl.Went w q p FD R (t.begin (t.g + 1) ps) w')) := fun w1 w2 A2 c2 hs1 hb1 hr hb2 => by
            have hb02 : Below w.heap.size w w2 := hb1.trans (hb2.mono (by omega))
            have hl2 := h.below hb02
            have hlt := h.lt
            have := begin_any w2 q p FD R (fun k => w1.heap.size ≤ k ∧ k < w2.heap.size) v t (t.g + 1) A2 c2 ps hl2 hr.toR (fun hk => by have := hlt q (.inl rfl); omega) (fun k hf hk => by have := hlt k (.inr (.inl hf)); omega) (fun k hf hk => by have := hlt k (.inr (.inr hf)); omega) (fun k hk => hk.2) hg1 hok hnd1 (fun x hx => by
              obtain ⟨j, hj, rfl⟩ := List.getElem_of_mem hx
              exact hl8 j hj)
            rw [show ((t.g + 1 : Nat) : Int) = (t.g : Int) + 1 by omega] at this
            refine this.mono fun e w' ⟨g1, g2⟩ => ⟨g1, ?_⟩
            obtain ⟨FD', R', v', k1, k2, k3, k4⟩ := g2.out
            refine ⟨FD', R', v', k1, ?_, fun k hk => ?_, fun k hk => ?_⟩
            · have hf0 : Dk.Fr (Wl.FF q FD R) w w2 := Dk.Fr.of_below hb02
              exact hf0.trans k2 (fun _ _ h => h)
            · exact (k3 k hk).imp id (fun h => by have := hb02.size; omega)
            · rcases k4 k hk with h | h
              · exact .inl h
              · right; omega
          have hqlt : q < w.heap.size := h.lt q (.inl rfl)
          clear h hP h4
          generalize Wl.needs ps = nd at *
          generalize Wl.area N = ar at *
          generalize t.begin (t.g + 1) ps = T at *
          generalize (Wl.begin_ t.d (t.g + 1) ps).2 = E at *
          generalize t.g = g at *
          have hwr : IntKind.u32.wrap ((g : Int) + 1) = (g : Int) + 1 := by rw [IntKind.wrap_u32]; omega
          go_enter Try.func23, Try.ntmps23
          go_wp2_with (go_at_call 54; refine HTL.out.mono ?_; rintro e w1 ⟨rfl, rfl⟩)
          go_quiet ((first
            | (go_at_call 55; refine Calls.quiet_of_same ((HNA.out _ (by intro _; rfl)).mono fun _ _ h => ⟨h.1, h.2.symm⟩))
            | (go_at_call 48; refine Calls.quiet_of_same ((HSZ.out _ (by intro _; rfl)).mono fun _ _ h => ⟨h.1, h.2.symm⟩))
            | (go_at_call 13; refine Calls.quiet_of_same ((HAR.out _).mono fun _ _ h => ⟨h.1, h.2.symm⟩))))
          go_wp2
          generalize hw : w.drewN _ = w1
          have hw1 : ∀ k : Nat, w1.drew.heap[k]? = w.heap[k]? := fun k => by rw [← hw]; rfl
          have hs1 : w1.drew.heap.size = w.heap.size := by rw [← hw]; rfl
          have hb1 : Below w.heap.size w w1.drew := by rw [← hw]; exact ⟨rfl, rfl, rfl, Nat.le_refl _, fun _ _ => rfl⟩
          have c11 : w1.cell? ⟨q, 1, none⟩ = some (.int .u32 (g : Int)) := by rw [← hw]; exact c1
          have HW1 := Lib.hid hw1
          clear hw hw1
          go_region_with (first
            | (go_at_call 57; refine (HCA.out w1.drew HW1.out).mono ?_; rintro e w2 ⟨A2, c2, rfl, HR2, hb2⟩; have c12 : w2.cell? ⟨q, 1, none⟩ = some (.int .u32 (g : Int)) := (hb2.cell (p := ⟨q, 1, none⟩) (by rw [hs1]; exact hqlt)).trans c11)
            | (go_at_call 56; refine (HBG.out w1.drew w2 A2 c2 hs1 hb1 HR2.out hb2).mono ?_; rintro e w3 ⟨rfl, HG3⟩))
          all_goals go_wp2
          all_goals go_ret
          all_goals exact ⟨rfl, HG3⟩
end Go.Proofs.Ytogkaoiiddhdbaa
