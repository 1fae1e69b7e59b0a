/- A log of the law's own, beside blocks X that stay; a log on a new disk. -/
import Derived.Test.YtogkaoiiddhdbaaGood
import Derived.Test.YtogkaoiiddhdbaaApd
namespace Go.Proofs.Ytogkaoiiddhdbaa
open Go.RowKit

namespace Wl
theorem zeros_first : Dk.zeros.getD 0 0 = 0 := rfl
theorem zeros_tells : tells Dk.zeros = false := by
  unfold tells
  rw [zeros_first]
  rfl
theorem head_first (g : Nat) : (head g).getD 0 0 = 1 := seal_getD 1 _ rfl
theorem zeros_head (i : Nat) : isHead Dk.zeros i = false := by
  unfold isHead
  have : ¬ Dk.zeros = head (gen Dk.zeros) := fun e => by
    have h := congrArg (fun l => l.getD 0 0) e
    simp only [zeros_first, head_first] at h
    exact absurd h (by decide)
  rw [decide_eq_false this, Bool.and_false]
theorem flat_new (n : Int) : Flat (Dk.S.new n) (fun _ => Dk.zeros) := flat_of rfl (fun _ => rfl)
theorem now_new : nowF (fun _ => Dk.zeros) = (0, false) := by
  unfold nowF cur
  rw [zeros_head, zeros_head]
  rfl
theorem next_new (n : Nat) : nextF (fun _ => Dk.zeros) n = 1 := by
  unfold nextF
  rw [now_new]
  have : top 0 (secsF (fun _ => Dk.zeros) n) = 0 := by
    have := top_le 0 0 (Nat.le_refl _) (secsF (fun _ => Dk.zeros) n) (fun s hs ht => by
      simp only [secsF, List.mem_map] at hs
      obtain ⟨_, _, rfl⟩ := hs
      rw [zeros_tells] at ht
      cases ht)
    omega
  unfold Wl.next
  simp only [this]
  rfl
theorem open_new (n : Nat) (h4 : 4 ≤ n) : nextOf (Dk.S.new (n : Int)) = 1 ∧ found (Dk.S.new (n : Int)) = [] ∧ (begin_ (Dk.S.new (n : Int)) 1 []).2 = 0 ∧ Good n (opened (Dk.S.new (n : Int))) ∧ (opened (Dk.S.new (n : Int))).rs = [] ∧ (opened (Dk.S.new (n : Int))).g = 1 ∧ (opened (Dk.S.new (n : Int))).d.fused = false := by
  have hF := flat_new (n : Int)
  have hnt : (Dk.S.new (n : Int)).n.toNat = n := by simp [Dk.S.new]
  have hnx : nextOf (Dk.S.new (n : Int)) = 1 := by rw [hF.next]; exact next_new _
  have hfd : found (Dk.S.new (n : Int)) = [] := by
    rw [hF.found (by rw [hnt]; exact h4)]
    unfold foundF
    rw [now_new]
    rfl
  have hfl := first_le n 1 h4
  obtain ⟨a1, a2, a3, a4⟩ := lay_calm hF rfl rfl (first n 1) (all 1 []) (by intro b hb; simp [all, allFrom] at hb) (by
    show (first n 1 : Int) + _ ≤ (n : Int)
    simp [all, allFrom]
    omega)
  obtain ⟨b1, b2, _, _⟩ := lay_facts (all 1 []) (Dk.S.new (n : Int)) (first n 1) (Int.le_refl _)
  obtain ⟨c1, c2, c3, c4⟩ := lay_calm a4 a2 a3 (1 % 2) [head 1] (fun x hx => by simp at hx; rw [hx]; exact length_head _) (by
    rw [b1]
    show ((1 % 2 : Nat) : Int) + _ ≤ (n : Int)
    simp
    omega)
  have hI : Inv n 1 [] (over (over (fun _ => Dk.zeros) (first n 1) (all 1 [])) (1 % 2) [head 1]) := inv_begin (by omega) h4 (fun _ => Dk.length_zeros) (fun k _ ht => by
    rw [zeros_tells] at ht
    cases ht) (by rw [needs_nil]; exact Nat.zero_le _) (by intro r hr; cases hr)
  have hbg : begin_ (Dk.S.new (n : Int)) 1 [] = lay (lay (Dk.S.new (n : Int)) (first n 1) (all 1 [])).1 (1 % 2) [head 1] := by
    unfold begin_
    rw [hnt]
    simp only
    rw [if_pos a1]
  obtain ⟨f1, f2, f3, _⟩ := begin_facts (Dk.S.new (n : Int)) 1 [] (Int.le_refl _)
  have ho : opened (Dk.S.new (n : Int)) = { d := (begin_ (Dk.S.new (n : Int)) 1 []).1, g := 1, rs := [], room := (area n : Int) - 0, closed := false } := by
    unfold opened L.begin
    rw [hfd, hnx]
    show (if (begin_ (Dk.S.new (n : Int)) 1 []).2 = 0 then _ else _) = _
    rw [hbg, if_pos c1]
    simp only [opening, hnt]
    rfl
  refine ⟨hnx, hfd, by rw [hbg]; exact c1, ?_, by rw [ho], by rw [ho], by rw [ho, hbg]; exact c3⟩
  rw [ho]
  refine ⟨⟨_, by rw [hbg]; exact c4, hI⟩, f1, by rw [hbg]; exact c2, rfl, rfl, f2, Int.le_trans f3 (show (0 : Int) ≤ 9223372036854775807 by decide)⟩

def LiveL (w0 : World) (X : Nat → Prop) (w : World) (q p : Nat) (t : L) : Prop :=
  ∃ FD R v, LgAt w q p FD R v t ∧ (∀ k, FF q FD R k → w0.heap.size ≤ k ∧ ¬ X k) ∧ Below w0.heap.size w0 w ∧ (∀ k, X k → k < w.heap.size)
section
variable {w0 w w' : World} {X Y : Nat → Prop} {q p : Nat} {t t' : L} {s : Dk.S}
theorem LiveL.bl (h : LiveL w0 X w q p t) : Below w0.heap.size w0 w := by
  obtain ⟨_, _, _, _, _, hb, _⟩ := h
  exact hb
theorem LiveL.below (h : LiveL w0 X w q p t) (hb : Below w.heap.size w w') : LiveL w0 X w' q p t ∧ Dk.Same X w w' := by
  obtain ⟨FD, R, v, hL, hF, hbw, hX⟩ := h
  exact ⟨⟨FD, R, v, hL.below hb, hF, hbw.trans (hb.mono hbw.size), fun k hk => Nat.lt_of_lt_of_le (hX k hk) hb.size⟩, fun k hk => hb.block k (hX k hk)⟩
theorem LiveL.fewer (h : LiveL w0 X w q p t) (hY : ∀ k, Y k → X k) : LiveL w0 Y w q p t := by
  obtain ⟨FD, R, v, hL, hF, hbw, hX⟩ := h
  exact ⟨FD, R, v, hL, fun k hk => ⟨(hF k hk).1, fun hy => (hF k hk).2 (hY k hy)⟩, hbw, fun k hk => hX k (hY k hk)⟩
/-- What was made since is none of the log's. -/
theorem LiveL.more (h : LiveL w0 X w q p t) (hb : Below w.heap.size w w') : LiveL w0 (fun k => X k ∨ (w.heap.size ≤ k ∧ k < w'.heap.size)) w' q p t := by
  obtain ⟨FD, R, v, hL, hF, hbw, hX⟩ := h
  have hlt := hL.lt
  have hs := hb.size
  refine ⟨FD, R, v, hL.below hb, fun k hk => ⟨(hF k hk).1, ?_⟩, hbw.trans (hb.mono hbw.size), ?_⟩
  · rintro (h | h)
    · exact (hF k hk).2 h
    · have := hlt k hk; omega
  · rintro k (h | h)
    · exact Nat.lt_of_lt_of_le (hX k h) hs
    · exact h.2
theorem LiveL.went (h : LiveL w0 X w q p t) (hw : ∀ FD R v, LgAt w q p FD R v t → (∀ k, FF q FD R k → w0.heap.size ≤ k ∧ ¬ X k) → Went w q p FD R t' w') : LiveL w0 X w' q p t' ∧ Dk.Same X w w' := by
  obtain ⟨FD, R, v, hL, hF, hbw, hX⟩ := h
  obtain ⟨FD', R', v', k1, k2, k3, k4⟩ := hw FD R v hL hF
  refine ⟨⟨FD', R', v', k1, fun k hk => ?_, hbw.trans (k2.below hbw.size (fun k hk => (hF k hk).1)), fun k hk => Nat.lt_of_lt_of_le (hX k hk) k2.size⟩, fun k hk => k2.block k (hX k hk) (fun hf => (hF k hf).2 hk)⟩
  have hs := hbw.size
  rcases hk with rfl | hk | hk
  · exact hF _ (.inl rfl)
  · rcases k3 k hk with h1 | h1
    · exact hF k (.inr (.inl h1))
    · exact ⟨by omega, fun hx => by have := hX k hx; omega⟩
  · rcases k4 k hk with h1 | h1
    · exact hF k (.inr (.inr h1))
    · exact ⟨by omega, fun hx => by have := hX k hx; omega⟩
/-- The disk alone. -/
theorem LiveL.disk (h : LiveL w0 X w q p t) : Dk.Live w0 X w p t.d := by
  obtain ⟨FD, R, v, hL, hF, hbw, hX⟩ := h
  exact ⟨FD, hL.dsk, fun k hk => hF k (.inr (.inl hk)), hbw, hX⟩
/-- The disk has gone on, below the log. -/
theorem LiveL.turn (h : LiveL w0 X w q p t) (hg : ∀ FD, Dk.Dsk w p FD t.d → Dk.Gone w FD w' p s) : LiveL w0 X w' q p { t with d := s } ∧ Dk.Same X w w' := by
  obtain ⟨FD, R, v, hL, hF, hbw, hX⟩ := h
  obtain ⟨FD', hD', hM⟩ := hg FD hL.dsk
  have hM2 := Moved.ff hM q R
  refine ⟨⟨FD', R, v, hL.disk hD' hM, fun k hk => ?_, hbw.trans (hM2.1.below hbw.size (fun k hk => (hF k hk).1)), fun k hk => Nat.lt_of_lt_of_le (hX k hk) hM2.1.size⟩, fun k hk => hM2.1.block k (hX k hk) (fun hf => (hF k hf).2 hk)⟩
  have hs := hbw.size
  rcases hM2.2 k hk with h1 | h1
  · exact hF k h1
  · exact ⟨by omega, fun hx => by have := hX k hx; omega⟩
end
end Wl

section
variable {w0 w : World} {X : Nat → Prop} {q p : Nat} {t : Wl.L} {s : Dk.S}
/-- The numbers of a log, as a law leads it. -/
structure Wl.Fit (t : Wl.L) : Prop where
  ok : Dk.Ok t.d 50000
  g : t.g < 4294967296
  r0 : 0 ≤ t.room
  r1 : t.room ≤ (Wl.area t.d.n.toNat : Int)
  rs : t.rs.length ≤ 5000
  r8 : ∀ x ∈ t.rs, x.length ≤ 8192
theorem append_live {A : Option Addr} {b : List UInt8} {c n : Nat} (h : Wl.LiveL w0 X w q p t) (hf : Wl.Fit t) (hB : Dk.Bts w (fun k => k < w0.heap.size ∨ X k) A b) (hnil : A = none → c = 0) (hcap : b.length ≤ c) (hbl : b.length ≤ 9223372036854775807) (hn : n = b.length) :
    Calls Try.prog 19 #[.pointer (some ⟨q, 0, none⟩), .slice A n c] w fun e w' => e = .returned (.int .i64 (t.acode b)) ∧ Hid (Wl.LiveL w0 X w' q p (t.append b)) ∧ Hid (Dk.Same X w w') := by
  subst hn
  obtain ⟨FD, R, v, hL, hF, hbw, hX⟩ := id h
  refine (append_any w q p FD R _ v t A c b hL hB hnil hcap (fun k hk hf' => by
    have := hF k hf'
    rcases hk with hk | hk
    · omega
    · exact this.2 hk) hf.ok hf.g hf.r0 hf.r1 hf.rs hbl).mono fun e w' ⟨he, HW⟩ => ⟨he, ?_⟩
  have hW := HW.out
  have : Wl.LiveL w0 X w' q p (t.append b) ∧ Dk.Same X w w' := by
    obtain ⟨FD', R', v', k1, k2, k3, k4⟩ := hW
    refine ⟨⟨FD', R', v', k1, fun k hk => ?_, hbw.trans (k2.below hbw.size (fun k hk => (hF k hk).1)), fun k hk => Nat.lt_of_lt_of_le (hX k hk) k2.size⟩, fun k hk => k2.block k (hX k hk) (fun hf => (hF k hf).2 hk)⟩
    have hs := hbw.size
    rcases hk with rfl | hk | hk
    · exact hF _ (.inl rfl)
    · rcases k3 k hk with h1 | h1
      · exact hF k (.inr (.inl h1))
      · exact ⟨by omega, fun hx => by have := hX k hx; omega⟩
    · rcases k4 k hk with h1 | h1
      · exact hF k (.inr (.inr h1))
      · exact ⟨by omega, fun hx => by have := hX k hx; omega⟩
  exact this
theorem renew_live {A : Option Addr} {ps : List (List UInt8)} {c n : Nat} {G : Nat → Prop} (h : Wl.LiveL w0 X w q p t) (hf : Wl.Fit t) (hP : Wl.Prts w G A ps) (hn : ps.length ≤ 900000) (hl : ∀ j (hj : j < ps.length), ps[j].length ≤ 9223372036854775807) (hnn : n = ps.length) :
    Calls Try.prog 23 #[.pointer (some ⟨q, 0, none⟩), .slice A n c] w fun e w' => e = .returned (.int .i64 (t.rcode ps)) ∧ Hid (Wl.LiveL w0 X w' q p (t.renew ps)) ∧ Hid (Dk.Same X w w') := by
  subst hnn
  obtain ⟨FD, R, v, hL, hF, hbw, hX⟩ := id h
  refine (renew_any w q p FD R G v t A c ps hL hP hf.ok hf.g hn hl).mono fun e w' ⟨he, HW⟩ => ⟨he, ?_⟩
  have hW := HW.out
  have : Wl.LiveL w0 X w' q p (t.renew ps) ∧ Dk.Same X w w' := by
    obtain ⟨FD', R', v', k1, k2, k3, k4⟩ := hW
    refine ⟨⟨FD', R', v', k1, fun k hk => ?_, hbw.trans (k2.below hbw.size (fun k hk => (hF k hk).1)), fun k hk => Nat.lt_of_lt_of_le (hX k hk) k2.size⟩, fun k hk => k2.block k (hX k hk) (fun hf => (hF k hf).2 hk)⟩
    have hs := hbw.size
    rcases hk with rfl | hk | hk
    · exact hF _ (.inl rfl)
    · rcases k3 k hk with h1 | h1
      · exact hF k (.inr (.inl h1))
      · exact ⟨by omega, fun hx => by have := hX k hx; omega⟩
    · rcases k4 k hk with h1 | h1
      · exact hF k (.inr (.inr h1))
      · exact ⟨by omega, fun hx => by have := hX k hx; omega⟩
  exact this
theorem room_live (h : Wl.LiveL w0 X w q p t) : Calls Try.prog 39 #[.pointer (some ⟨q, 0, none⟩)] w fun e w' => e = .returned (.int .i64 t.room) ∧ w = w' := by
  obtain ⟨FD, R, v, hL, _⟩ := h
  exact room_any w q p FD R v t hL
theorem generation_live (h : Wl.LiveL w0 X w q p t) : Calls Try.prog 40 #[.pointer (some ⟨q, 0, none⟩)] w fun e w' => e = .returned (.int .u32 (t.g : Int)) ∧ w = w' := by
  obtain ⟨FD, R, v, hL, _⟩ := h
  exact generation_any w q p FD R v t hL
theorem records_live (h : Wl.LiveL w0 X w q p t) (hf : Wl.Fit t) : Calls Try.prog 34 #[.pointer (some ⟨q, 0, none⟩)] w fun e w' => Wl.NewR w t.rs e w' := by
  obtain ⟨FD, R, v, hL, _⟩ := h
  exact records_any w q p FD R v t hL (by have := hf.rs; omega) hf.r8
/-- Open answered a log. -/
def Wl.OpenL (w0 : World) (X : Nat → Prop) (w : World) (p : Nat) (t : Wl.L) (e : Ending) (w' : World) : Prop := ∃ q, e = .returned (.tuple #[.pointer (some ⟨q, 0, none⟩), .int .i64 0]) ∧ Hid (Wl.LiveL w0 X w' q p t) ∧ Hid (Dk.Same X w w')
theorem open_live (h : Dk.Live w0 X w p s) (hok : Dk.Ok s 50000) (hd : s.down = false) (hnx : ¬ 4294967295 < Wl.nextOf s) (hb : (Wl.begin_ s (Wl.nextOf s) (Wl.found s)).2 = 0) :
    Calls Try.prog 38 #[.pointer (some ⟨p, 0, none⟩)] w fun e w' => Wl.OpenL w0 X w p (Wl.opened s) e w' := by
  obtain ⟨F, hD, hF, hbw, hX⟩ := h
  refine (open_core w p F s hD hok hd).mono fun e w' ⟨_, _, h3⟩ => ?_
  obtain ⟨q, he, HO⟩ := h3 hnx hb
  obtain ⟨FD', R', v', k1, k2, k3, k4, k5⟩ := HO.out
  have hs := hbw.size
  refine ⟨q, he, ⟨FD', R', v', k1, fun k hk => ?_, hbw.trans (k2.below hbw.size (fun k hk => (hF k hk).1)), fun k hk => Nat.lt_of_lt_of_le (hX k hk) k2.size⟩, fun k hk => k2.block k (hX k hk) (fun hf => (hF k hf).2 hk)⟩
  rcases hk with rfl | hk | hk
  · exact ⟨by omega, fun hx => by have := hX _ hx; omega⟩
  · rcases k3 k hk with h1 | h1
    · exact hF k h1
    · exact ⟨by omega, fun hx => by have := hX k hx; omega⟩
  · have := k4 k hk
    exact ⟨by omega, fun hx => by have := hX k hx; omega⟩
theorem open_cut (h : Dk.Live w0 X w p s) (hok : Dk.Ok s 50000) (hd : s.down = false) (hnx : ¬ 4294967295 < Wl.nextOf s) (hb : (Wl.begin_ s (Wl.nextOf s) (Wl.found s)).2 ≠ 0) :
    Calls Try.prog 38 #[.pointer (some ⟨p, 0, none⟩)] w fun e w' => e = .returned (.tuple #[.pointer none, .int .i64 (Wl.begin_ s (Wl.nextOf s) (Wl.found s)).2]) ∧ Hid (Dk.Live w0 X w' p (Wl.begin_ s (Wl.nextOf s) (Wl.found s)).1) ∧ Hid (Dk.Same X w w') := by
  obtain ⟨F, hD, hF, hbw, hX⟩ := id h
  refine (open_core w p F s hD hok hd).mono fun e w' ⟨_, h2, _⟩ => ?_
  obtain ⟨he, HG⟩ := h2 hnx hb
  obtain ⟨F', hD', hfr, hF'⟩ := HG.out
  refine ⟨he, ⟨F', hD', fun k hk => ?_, hbw.trans (hfr.below hbw.size (fun k hk => (hF k hk).1)), fun k hk => Nat.lt_of_lt_of_le (hX k hk) hfr.size⟩, fun k hk => hfr.block k (hX k hk) (fun hf => (hF k hf).2 hk)⟩
  rcases hF' k hk with h1 | h1
  · exact hF k h1
  · exact ⟨Nat.le_trans hbw.size h1, fun hx => by have := hX k hx; omega⟩
end
theorem Wl.Good.fits {n : Nat} {t : Wl.L} (h : Wl.Good n t) (hn : n ≤ 4096) : Wl.Fit t := by
  obtain ⟨f, hF, hI⟩ := id h.ex
  have hfit := h.fit
  have har : Wl.area n ≤ 4096 := by unfold Wl.area; omega
  have hnt : t.d.n.toNat = n := by rw [h.nn]; simp
  refine ⟨⟨by rw [h.nn]; have := hI.n4; omega, by rw [h.nn]; omega, h.l0, h.l1, by rw [hF.1]; simp⟩, hI.gl, by rw [h.rm]; omega, by rw [hnt, h.rm]; omega, ?_, hI.r8⟩
  have := Wl.length_le_needs t.rs
  omega
end Go.Proofs.Ytogkaoiiddhdbaa
