/- What holds of a log between two acts, whatever was cut: open and good, or closed with what is left on its disk. -/
import Derived.Test.YtogkaoiiddhdbaaLis
namespace Go.Proofs.Ytogkaoiiddhdbaa
open Go.RowKit
set_option linter.unusedVariables false

namespace Wl
structure GS (n : Nat) (t : L) (M : Nat) : Prop where
  fit : Fit t
  n4 : n ≤ 60
  gm : t.g ≤ M
  st : Good n t ∨ (t.closed = true ∧ t.d.down = true ∧ ∃ A B G, Left n t.d A B t.g G ∧ G ≤ M)
section
variable {n M : Nat} {t : L}
theorem Good.gs (h : Good n t) (hn : n ≤ 60) (hM : t.g ≤ M) : GS n t M := ⟨h.fits (by omega), hn, hM, .inl h⟩
theorem GS.mono {M' : Nat} (h : GS n t M) (hM : M ≤ M') : GS n t M' := ⟨h.fit, h.n4, Nat.le_trans h.gm hM, h.st.imp id (fun ⟨a, b, A, B, G, c, d⟩ => ⟨a, b, A, B, G, c, Nat.le_trans d hM⟩)⟩
theorem area_small (h : n ≤ 60) : area n ≤ 29 := by unfold area; omega
theorem GS.append (h : GS n t M) (b : List UInt8) : GS n (t.append b) M ∧ (t.append b).g = t.g := by
  have hn := h.n4
  rcases h.st with hg | ⟨h1, h2, h3⟩
  · by_cases hb : 8192 < b.length
    · rw [(append_long hg.op hb).2]; exact ⟨h, rfl⟩
    · by_cases hr : t.room < (need b.length : Int)
      · rw [(append_full hg.op hb hr).2]; exact ⟨h, rfl⟩
      · rcases append_fits hg hb hr with ⟨a1, a2, a3, a4, _⟩ | ⟨a1, a2, a3, a4, a5, a6, a7, a8, a9⟩
        · exact ⟨a2.gs hn (by rw [a4]; exact h.gm), a4⟩
        · refine ⟨⟨?_, hn, by rw [a4]; exact h.gm, .inr ⟨a3, a9, _, _, _, by rw [a4]; exact a6, h.gm⟩⟩, a4⟩
          have hF := h.fit
          have hl1 := hg.l1
          have hrm : (t.append b).room = t.room := by
            have hc := a1
            unfold L.acode at hc
            rw [if_neg (by simp [hg.op]), if_neg hb, if_neg hr] at hc
            unfold L.append
            rw [if_neg (by simp [hg.op]), if_neg hb, if_neg hr]
            simp only
            rw [if_neg (by omega)]
          have hwt : (t.append b).d.wait.length ≤ 50000 := by
            have hc := a1
            unfold L.acode at hc
            rw [if_neg (by simp [hg.op]), if_neg hb, if_neg hr] at hc
            unfold L.append
            rw [if_neg (by simp [hg.op]), if_neg hb, if_neg hr]
            simp only
            rw [if_neg (by omega)]
            obtain ⟨f, hFl, _⟩ := hg.ex
            have h9 := (lay_facts (pieces t.g t.rs.length b) t.d (first t.d.n.toNat t.g + area t.d.n.toNat - t.room.toNat) hg.l0).2.2.2
            rw [hFl.1, length_pieces] at h9
            have h10 := area_small hn
            have h11 := hg.rm
            simp at h9
            simp only
            omega
          have hnn : (t.append b).d.n = t.d.n := by rw [a6.1, hg.nn]
          exact ⟨⟨by rw [hnn]; exact hF.ok.n0, by rw [hnn]; exact hF.ok.n1, a7, by omega, hwt⟩, by rw [a4]; exact hF.g, by rw [hrm]; exact hF.r0, by rw [hrm, hnn]; exact hF.r1, by rw [a5]; exact hF.rs, by rw [a5]; exact hF.r8⟩
  · rw [(append_closed h1).2]; exact ⟨h, rfl⟩
theorem GS.renew (h : GS n t M) (l : List (List UInt8)) (hM : M < 4294967000) : GS n (t.renew l) (M + 1) ∧ ((t.rcode l = 0 ∧ (t.renew l).g = t.g + 1) ∨ (t.rcode l ≠ 0 ∧ (t.renew l).g = t.g)) := by
  have hn := h.n4
  have hgm := h.gm
  rcases h.st with hg | ⟨h1, h2, h3⟩
  · by_cases hl : l.any (fun b => decide (8192 < b.length)) = true
    · rw [(renew_long hg.op hl).2, (renew_long hg.op hl).1]; exact ⟨h.mono (by omega), .inr ⟨by decide, rfl⟩⟩
    · have hl' : l.any (fun b => decide (8192 < b.length)) = false := by simpa using hl
      by_cases hf : area n < needs l
      · rw [(renew_full hg hl' hf).2, (renew_full hg hl' hf).1]; exact ⟨h.mono (by omega), .inr ⟨by decide, rfl⟩⟩
      · rcases renew_fits hg hl' (by omega) (by omega) with ⟨a1, a2, a3, a4, _⟩ | ⟨a1, a2, a3, a4, a5, a6, a7, a8, a9⟩
        · exact ⟨a2.gs hn (by omega), .inl ⟨a1, a4⟩⟩
        · refine ⟨⟨?_, hn, by omega, .inr ⟨a3, a9, _, _, _, by rw [a4]; exact a6, by omega⟩⟩, .inr ⟨by omega, a4⟩⟩
          have hF := h.fit
          have hl1 := hg.l1
          have hnt : t.d.n.toNat = n := by rw [hg.nn]; simp
          have hd : t.renew l = { t with d := (begin_ t.d (t.g + 1) l).1, closed := true } := by
            have hc := a1
            unfold L.rcode at hc
            rw [hnt, if_neg (by simp [hg.op]), if_neg (by simp [hl']), if_neg hf, if_neg (by omega)] at hc
            unfold L.renew
            rw [hnt, if_neg (by simp [hg.op]), if_neg (by simp [hl']), if_neg hf, if_neg (by omega)]
            unfold L.begin
            simp only
            rw [if_neg (by omega)]
          have hwt : (t.renew l).d.wait.length ≤ 50000 := by
            rw [hd]
            obtain ⟨f, hFl, _⟩ := hg.ex
            have h9 := (begin_facts t.d (t.g + 1) l hg.l0).2.2.2
            rw [hFl.1] at h9
            have h10 := area_small hn
            simp at h9
            simp only
            omega
          have hnn : (t.renew l).d.n = t.d.n := by rw [a6.1, hg.nn]
          have hrm : (t.renew l).room = t.room := by rw [hd]
          exact ⟨⟨by rw [hnn]; exact hF.ok.n0, by rw [hnn]; exact hF.ok.n1, a7, by omega, hwt⟩, by rw [a4]; exact hF.g, by rw [hrm]; exact hF.r0, by rw [hrm, hnn]; exact hF.r1, by rw [a5]; exact hF.rs, by rw [a5]; exact hF.r8⟩
  · rw [(renew_closed h1).2, (renew_closed h1).1]; exact ⟨h.mono (by omega), .inr ⟨by decide, rfl⟩⟩
def fuse (s : Dk.S) (k : Int) : Dk.S := if k < 0 then s else if s.down = true then s else { s with fused := true, left := k }
theorem GS.fuse (h : GS n t M) (k : Int) (hk : k ≤ 9223372036854775807) : GS n { t with d := Wl.fuse t.d k } M := by
  unfold Wl.fuse
  by_cases h0 : k < 0
  · rw [if_pos h0]; exact h
  · rw [if_neg h0]
    rcases h.st with hg | ⟨h1, h2, h3⟩
    · rw [if_neg (by simp [hg.up])]
      obtain ⟨f, hF, hI⟩ := hg.ex
      have g2 : Good n { t with d := { t.d with fused := true, left := k } } := ⟨⟨f, hF, hI⟩, hg.nn, hg.up, hg.op, hg.rm, by simp only; omega, hk⟩
      exact g2.gs h.n4 h.gm
    · rw [if_pos h2]; exact h
theorem GS.restart (h : GS n t M) (keep : List Bool) (hM : M < 4294967000) :
    Dk.Ok (t.d.restart keep) 50000 ∧ (t.d.restart keep).down = false ∧ ¬ 4294967295 < nextOf (t.d.restart keep) ∧ (begin_ (t.d.restart keep) (nextOf (t.d.restart keep)) (found (t.d.restart keep))).2 = 0 ∧ GS n (opened (t.d.restart keep)) (M + 2) ∧ t.g < (opened (t.d.restart keep)).g := by
  have hF := h.fit
  have hgm := h.gm
  have hok : Dk.Ok (t.d.restart keep) 50000 := ⟨hF.ok.n0, hF.ok.n1, Int.le_refl _, by show (0 : Int) ≤ _; decide, by show ([] : List _).length ≤ _; simp⟩
  have key : ∃ f' gc rs G, Flat (t.d.restart keep) f' ∧ CI n gc rs G f' ∧ t.g ≤ gc ∧ G ≤ M ∧ t.d.n = (n : Int) := by
    rcases h.st with hg | ⟨h1, h2, A, B, G, h3, h4⟩
    · obtain ⟨f, hFl, hI⟩ := hg.ex
      refine ⟨f, t.g, t.rs, t.g, flat_of rfl (fun k => ?_), hI.ci, Nat.le_refl _, hgm, hg.nn⟩
      rw [← hFl.safe k]
      show (Dk.doneOver t.d.safe (Dk.kept t.d.wait keep) (k : Int)).getD Dk.zeros = _
      rw [hFl.1]
      cases keep <;> rfl
    · obtain ⟨f', gc, rs, d1, d2, d3, _⟩ := h3.2 keep
      exact ⟨f', gc, rs, G, d1, d2, d3, h4, h3.1⟩
  obtain ⟨f', gc, rs, G, d1, d2, d3, d4, d5⟩ := key
  obtain ⟨o1, o2⟩ := open_run d1 (show (t.d.restart keep).n = _ from d5) rfl (Int.le_refl _) (by show (0 : Int) ≤ _; decide) d2 (by omega)
  rcases o2 with ⟨a1, a2, a3, a4, a5, a6⟩ | ⟨_, a2, _⟩
  · exact ⟨hok, rfl, o1, a1, a2.gs h.n4 (by omega), by omega⟩
  · cases a2
end
end Wl
section
variable {w0 w : World} {X : Nat → Prop} {q p : Nat} {t : Wl.L}
theorem fuse_liveL (k : Int) (h : Wl.LiveL w0 X w q p t) :
    Calls Try.prog 26 #[.pointer (some ⟨p, 0, none⟩), .int .i64 k] w fun e w' => e = .returned (.int .i64 (if k < 0 then 1 else if t.d.down = true then 3 else 0)) ∧ Hid (Wl.LiveL w0 X w' q p { t with d := Wl.fuse t.d k }) ∧ Hid (Dk.Same X w w') := by
  obtain ⟨FD, R, v, hL, hF, hbw, hX⟩ := id h
  obtain ⟨a, c, u, hA, rfl⟩ := id hL.dsk
  refine (fuse_any w p a c u t.d k hA).mono fun e w' ⟨he, H1, hfr⟩ => ⟨he, ?_⟩
  have hD' : Dk.Dsk w' p (Dk.Own p a c u) (Wl.fuse t.d k) := ⟨a, c, u, H1.out, rfl⟩
  have hM : Dk.Moved w (Dk.Own p a c u) w' (Dk.Own p a c u) := ⟨hfr, fun k hk => .inl hk⟩
  have hM2 := Wl.Moved.ff hM q R
  refine ⟨⟨_, R, v, hL.disk hD' hM, fun k hk => ?_, hbw.trans (hM2.1.below hbw.size (fun k hk => (hF k hk).1)), fun k hk => Nat.lt_of_lt_of_le (hX k hk) hM2.1.size⟩, fun k hk => hM2.1.block k (hX k hk) (fun hf => (hF k hf).2 hk)⟩
  exact hF k hk
end
end Go.Proofs.Ytogkaoiiddhdbaa
