/- The disk beside the document's: what they have in common, and what a call on the disk leaves alone. -/
import Derived.Test.YtngpdjkeoodigaaRefF
namespace Go.Proofs.Ytngpdjkeoodigaa
open Go.RowKit

namespace Dk
structure Rel (s : S) (r : R) : Prop where
  n : s.n = r.n
  wt : s.wait = r.wait
  dn : s.down = r.down
  sf : ∀ k, s.safe k = lastW r.safe k
  fu : r.down = false → s.fused = r.armed ∧ (s.fused = true → s.left = r.after)
  bl : 0 ≤ s.left ∧ s.left ≤ 9223372036854775807
  br : 0 ≤ r.after ∧ r.after ≤ 9223372036854775807
theorem Rel.get {s : S} {r : R} (h : Rel s r) (k : Int) : s.get k = rget r k := by
  unfold S.get rget
  rw [h.wt, h.sf k]
  cases lastW r.wait k with
  | some b => rfl
  | none => cases lastW r.safe k <;> rfl
theorem lastW_append (l m : List (Int × List UInt8)) (k : Int) : lastW (l ++ m) k = lastFrom k m (lastW l k) := lastFrom_append k l m none
theorem Rel.new (n : Int) : Rel (S.new n) ⟨n, [], [], false, false, 0⟩ := ⟨rfl, rfl, rfl, fun _ => rfl, (fun _ => ⟨rfl, fun h => by cases h⟩), ⟨Int.le_refl _, by show (0 : Int) ≤ _; omega⟩, ⟨Int.le_refl _, by show (0 : Int) ≤ _; omega⟩⟩
/-- The one step of a write or a flush. -/
theorem Rel.burn {s : S} {r : R} (h : Rel s r) (hd : r.down = false) : Rel s.burn r.next ∧ s.burn.down = !r.done := by
  obtain ⟨f1, f2⟩ := h.fu hd
  have hd' : s.down = false := h.dn.trans hd
  have hdn : ¬ r.down = true := by simp [hd]
  cases hf : s.fused with
  | false =>
    have ha : ¬ r.armed = true := by rw [← f1, hf]; simp
    have e1 : s.burn = s := burn_calm hf
    have e2 : r.next = r := by unfold R.next; rw [if_neg hdn, if_neg (fun h => ha h.1), if_neg ha]
    have e3 : r.done = true := by unfold R.done; rw [if_neg hdn, if_neg (fun h => ha h.1)]
    rw [e1, e2, e3]
    exact ⟨h, hd'⟩
  | true =>
    have ha : r.armed = true := f1.symm.trans hf
    have hfn : ¬ s.fused = false := by simp [hf]
    have hl := f2 hf
    by_cases h0 : s.left = 0
    · have h0' : r.after = 0 := by omega
      have e1 : s.burn = { s with down := true } := by unfold S.burn; rw [if_neg hfn, if_pos h0]
      have e2 : r.next = { r with down := true, armed := false } := by unfold R.next; rw [if_neg hdn, if_pos ⟨ha, h0'⟩]
      have e3 : r.done = false := by unfold R.done; rw [if_neg hdn, if_pos ⟨ha, h0'⟩]
      rw [e1, e2, e3]
      exact ⟨⟨h.n, h.wt, rfl, h.sf, (fun h => by cases h), h.bl, h.br⟩, rfl⟩
    · have h0' : ¬ (r.armed = true ∧ r.after = 0) := fun hh => h0 (by omega)
      have e1 : s.burn = { s with left := s.left - 1 } := by unfold S.burn; rw [if_neg hfn, if_neg h0]
      have e2 : r.next = { r with after := r.after - 1 } := by unfold R.next; rw [if_neg hdn, if_neg h0', if_pos ha]
      have e3 : r.done = true := by unfold R.done; rw [if_neg hdn, if_neg h0']
      rw [e1, e2, e3]
      have b1 := h.bl
      have b2 := h.br
      exact ⟨⟨h.n, h.wt, h.dn, h.sf, (fun _ => ⟨f1, fun _ => by show s.left - 1 = r.after - 1; omega⟩), by show 0 ≤ s.left - 1 ∧ s.left - 1 ≤ _; omega, by show 0 ≤ r.after - 1 ∧ r.after - 1 ≤ _; omega⟩, hd'⟩
theorem has_iff (s : S) (i : Int) : s.has i = true ↔ (0 ≤ i ∧ i < s.n) := by
  unfold S.has
  by_cases h0 : 0 ≤ i <;> by_cases h1 : i < s.n <;> simp [h0, h1]
theorem Rel.lay {s : S} {r : R} (h : Rel s r) (i : Int) (d : List UInt8) : Rel (s.write i d) (r.lay i d) ∧ s.wcode i d.length = r.layCode i d.length := by
  by_cases hin : 0 ≤ i ∧ i < r.n
  · have hh : s.has i = true := (has_iff s i).2 (by rw [h.n]; exact hin)
    by_cases h5 : d.length = 512
    · cases hd : r.down with
      | true =>
        have hd' : s.down = true := h.dn.trans hd
        rw [(lay_down hin h5 hd).1, (lay_down hin h5 hd).2, write_down_eq i d hd', h5, wcode_down hh hd']
        exact ⟨h, rfl⟩
      | false =>
        have hd' : s.down = false := h.dn.trans hd
        obtain ⟨hb, hbd⟩ := h.burn hd
        rw [(lay_ok hin h5 hd).1, (lay_ok hin h5 hd).2]
        refine ⟨?_, ?_⟩
        · unfold S.write
          rw [if_neg (by simp [hh]), if_neg (by omega), if_neg (by simp [hd'])]
          exact ⟨hb.n, by show s.burn.wait ++ _ = r.wait ++ _; rw [burn_wait, h.wt], hb.dn, hb.sf, hb.fu, hb.bl, hb.br⟩
        · unfold S.wcode
          rw [if_neg (by simp [hh]), if_neg (by omega), if_neg (by simp [hd']), hbd]
          cases r.done <;> rfl
    · rw [(lay_size hin h5).1, (lay_size hin h5).2]
      have hw : s.write i d = s := by unfold S.write; rw [if_neg (by simp [hh]), if_pos h5]
      have hc : s.wcode i d.length = 2 := by unfold S.wcode; rw [if_neg (by simp [hh]), if_pos h5]
      rw [hw, hc]
      exact ⟨h, rfl⟩
  · have hh : s.has i = false := by
      cases hq : s.has i with
      | false => rfl
      | true => exact absurd ((has_iff s i).1 hq) (by rw [h.n]; exact hin)
    rw [(lay_far hin).1, (lay_far hin).2, wcode_far hh]
    have hw : s.write i d = s := by unfold S.write; rw [if_pos hh]
    rw [hw]
    exact ⟨h, rfl⟩
theorem Rel.flush {s : S} {r : R} (h : Rel s r) : Rel s.flush r.flush ∧ s.fcode = r.flushCode := by
  cases hd : r.down with
  | true =>
    have hd' : s.down = true := h.dn.trans hd
    have e1 : r.done = false := by unfold R.done; rw [if_pos hd]
    have e2 : r.next = r := by unfold R.next; rw [if_pos hd]
    rw [flush_down hd', fcode_down hd']
    unfold R.flush R.flushCode
    rw [e1, e2]
    exact ⟨h, rfl⟩
  | false =>
    have hd' : s.down = false := h.dn.trans hd
    obtain ⟨hb, hbd⟩ := h.burn hd
    have hdn : ¬ s.down = true := by simp [hd']
    cases hdn' : r.done with
    | false =>
      have hbd : s.burn.down = true := by rw [hbd, hdn']; rfl
      have e1 : s.flush = s.burn := by unfold S.flush; rw [if_neg hdn, if_pos hbd]
      have e2 : s.fcode = 3 := by unfold S.fcode; rw [if_neg hdn, if_pos hbd]
      have e3 : r.flush = r.next := by unfold R.flush; rw [if_neg (by simp [hdn'])]
      have e4 : r.flushCode = 3 := by unfold R.flushCode; rw [if_neg (by simp [hdn'])]
      rw [e1, e2, e3, e4]
      exact ⟨hb, rfl⟩
    | true =>
      rw [hdn'] at hbd
      have hbn : ¬ s.burn.down = true := by rw [hbd]; simp
      have e1 : s.flush = s.burn.done := by unfold S.flush; rw [if_neg hdn, if_neg hbn]
      have e2 : s.fcode = 0 := by unfold S.fcode; rw [if_neg hdn, if_neg hbn]
      have e3 : r.flush = { r.next with safe := r.safe ++ r.wait, wait := [] } := by unfold R.flush; rw [if_pos hdn']
      have e4 : r.flushCode = 0 := by unfold R.flushCode; rw [if_pos hdn']
      rw [e1, e2, e3, e4]
      refine ⟨⟨hb.n, rfl, hb.dn, fun k => ?_, hb.fu, hb.bl, hb.br⟩, rfl⟩
      show lastFrom k s.burn.wait (s.burn.safe k) = lastW (r.safe ++ r.wait) k
      have hs : s.burn.safe = s.safe := by unfold S.burn; split <;> (try split) <;> rfl
      rw [burn_wait, hs, h.wt, h.sf k, lastW_append]
theorem Rel.fuse {s : S} {r : R} (h : Rel s r) (k : Int) (hk : k ≤ 9223372036854775807) : Rel (if k < 0 then s else if s.down = true then s else { s with fused := true, left := k }) (r.fuse k) ∧ (if k < 0 then (1 : Int) else if s.down = true then 3 else 0) = r.fuseCode k := by
  unfold R.fuse R.fuseCode
  rw [h.dn]
  by_cases h0 : k < 0
  · rw [if_pos h0, if_pos h0, if_pos h0]
    exact ⟨h, rfl⟩
  · rw [if_neg h0, if_neg h0, if_neg h0]
    by_cases hd : r.down = true
    · rw [if_pos hd, if_pos hd]
      exact ⟨h, rfl⟩
    · rw [if_neg hd, if_neg hd]
      exact ⟨⟨h.n, h.wt, rfl, h.sf, (fun _ => ⟨rfl, fun _ => rfl⟩), by show 0 ≤ k ∧ k ≤ _; omega, by show 0 ≤ k ∧ k ≤ _; omega⟩, rfl⟩
theorem Rel.cut {s : S} {r : R} (h : Rel s r) : Rel { s with down := true } { r with down := true, armed := false } := ⟨h.n, h.wt, rfl, h.sf, (fun h => by cases h), h.bl, h.br⟩
theorem Rel.restart {s : S} {r : R} (h : Rel s r) (m : List Bool) : Rel (s.restart m) (r.restart m) := by
  refine ⟨h.n, rfl, rfl, fun k => ?_, (fun _ => ⟨rfl, fun h => by cases h⟩), ?_, ?_⟩
  · show lastFrom k (kept s.wait m) (s.safe k) = lastW (r.safe ++ kept r.wait m) k
    rw [h.wt, h.sf k, lastW_append]
  · show (0 : Int) ≤ 0 ∧ (0 : Int) ≤ _; omega
  · show (0 : Int) ≤ 0 ∧ (0 : Int) ≤ _; omega
/-- Block k is none of a disk's. -/
def Oth (w : World) (k : Nat) : Prop := ∃ cs e fr, w.heap[k]? = some (.cells cs e fr) ∧ e ≠ 63 ∧ e ≠ 77
def Keep (w w' : World) : Prop := ∀ k, Oth w k → w'.heap[k]? = w.heap[k]?
theorem Dsk.oth {w : World} {p : Nat} {F : Nat → Prop} {s : S} (h : Dsk w p F s) (k : Nat) (hk : F k) : ¬ Oth w k := by
  obtain ⟨a, c, v, hA, rfl⟩ := h
  rintro ⟨cs, e, fr, h1, h2, h3⟩
  rcases hk with rfl | rfl | rfl | hk
  · rw [hA.str] at h1; injection h1 with h1; injection h1 with _ h1; exact h2 h1.symm
  · obtain ⟨es, ck, hb, _⟩ := hA.safe; rw [hb] at h1; cases h1
  · obtain ⟨es, ck, hb, _⟩ := hA.late; rw [hb] at h1; cases h1
  · rcases hA.row.2 with ⟨h4, _⟩ | ⟨g, cap, cur, hv, _, hh, _⟩
    · rw [h4] at hk; cases hk
    · rw [hv] at hk
      injection hk with hk
      subst hk
      rw [hh] at h1; injection h1 with h1; injection h1 with _ h1; exact h3 h1.symm
theorem Oth.lt {w : World} {k : Nat} (h : Oth w k) : k < w.heap.size := by
  obtain ⟨cs, e, fr, h1, _⟩ := h
  exact lt_of_some h1
theorem Live.oth {w0 w : World} {X : Nat → Prop} {p : Nat} {s : S} (h : Live w0 X w p s) : Live w0 (Oth w) w p s := by
  obtain ⟨F, hD, hF, hb, _⟩ := h
  exact ⟨F, hD, fun k hk => ⟨(hF k hk).1, hD.oth k hk⟩, hb, fun k hk => hk.lt⟩
theorem Two.oth {w0 w : World} {X : Nat → Prop} {p q : Nat} {s t : S} (h : Two w0 X w p s q t) : Two w0 (Oth w) w p s q t := by
  obtain ⟨G, ⟨F, hD, hF, hb, hX⟩, hq, hG⟩ := h
  refine ⟨G, ⟨F, hD, fun k hk => ⟨(hF k hk).1, ?_⟩, hb, ?_⟩, hq, fun k hk => ⟨(hG k hk).1, hq.oth k hk⟩⟩
  · rintro (h | h)
    · exact hD.oth k hk h
    · exact (hF k hk).2 (.inr h)
  · rintro k (h | h)
    · exact h.lt
    · exact hX k (.inr h)
theorem Live.none {w0 w : World} {X : Nat → Prop} {p : Nat} {s : S} (h : Live w0 X w p s) : Live w0 (fun _ => False) w p s := h.fewer (fun _ h => h.elim)
theorem Two.none {w0 w : World} {X : Nat → Prop} {p q : Nat} {s t : S} (h : Two w0 X w p s q t) : Two w0 (fun _ => False) w p s q t := h.fewer (fun _ h => h.elim)
theorem Keep.trans {w w' w'' : World} (h : Keep w w') (k : Keep w' w'') : Keep w w'' := fun i hi => by
  have e := h i hi
  refine (k i ?_).trans e
  obtain ⟨cs, el, fr, h1, h2⟩ := hi
  exact ⟨cs, el, fr, e.trans h1, h2⟩
theorem Keep.below {w w' : World} (hb : Below w.heap.size w w') : Keep w w' := fun k hk => hb.block k hk.lt
theorem RB.keep {w w' : World} {g : Nat} {r : R} {sv wv : Value} (h : RB w g r sv wv) (hk : Keep w w') : RB w' g r sv wv := h.kept (hk g ⟨_, _, _, h, by decide, by decide⟩)
theorem RW.keep {w w' : World} {v : Value} {l : List (Int × List UInt8)} (h : RW w v l) (hk : Keep w w') : RW w' v l := by
  obtain ⟨h1, h2⟩ := h
  refine ⟨h1, ?_⟩
  rcases h2 with h2 | ⟨g, cap, cur, hv, hg, hh, r⟩
  · exact .inl h2
  · exact .inr ⟨g, cap, cur, hv, hg, (hk g ⟨_, _, _, hh, by decide, by decide⟩).trans hh, r⟩
theorem RR.keep {w w' : World} {r : R} {sv wv : Value} (h : RR w r sv wv) (hk : Keep w w') : RR w' r sv wv := ⟨h.1.keep hk, h.2.1.keep hk, h.2.2⟩
end Dk
end Go.Proofs.Ytngpdjkeoodigaa
