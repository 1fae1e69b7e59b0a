/- Logs behind a crash, opened again and again; plainly. -/
import Derived.Test.YtogkaoiiddhdbaaAcl
namespace Go.Proofs.Ytogkaoiiddhdbaa
open Go.RowKit
set_option linter.unusedVariables false

namespace Wl
section
variable {n M G : Nat} {t : L} {s : Dk.S} {rs : List (List UInt8)}
theorem Good.appendF (h : Good n t) (hf : t.d.fused = false) (b : List UInt8) : Good n (t.append b) ∧ (t.append b).d.fused = false ∧ (t.append b).g = t.g := by
  by_cases hb : 8192 < b.length
  · rw [(append_long h.op hb).2]; exact ⟨h, hf, rfl⟩
  · by_cases hr : t.room < (need b.length : Int)
    · rw [(append_full h.op hb hr).2]; exact ⟨h, hf, rfl⟩
    · obtain ⟨_, a2, _, a4, a5, _⟩ := h.append0 hf hb hr
      exact ⟨a2, a5, a4⟩
theorem Good.renewF (h : Good n t) (hf : t.d.fused = false) (l : List (List UInt8)) (hg : t.g < 4294967000) : Good n (t.renew l) ∧ (t.renew l).d.fused = false ∧ (t.renew l).g ≤ t.g + 1 := by
  by_cases hl : l.any (fun b => decide (8192 < b.length)) = true
  · rw [(renew_long h.op hl).2]; exact ⟨h, hf, by omega⟩
  · have hl' : l.any (fun b => decide (8192 < b.length)) = false := by simpa using hl
    by_cases hff : area n < needs l
    · rw [(renew_full h hl' hff).2]; exact ⟨h, hf, by omega⟩
    · rcases renew_fits h hl' (by omega) (by omega) with ⟨_, a2, _, a4, a5⟩ | ⟨_, a2, _⟩
      · exact ⟨a2, by rw [a5]; exact hf, by omega⟩
      · rw [hf] at a2; cases a2
/-- What lies on a disk that was restarted: the records rs, in generations up to G. -/
structure RS (n : Nat) (s : Dk.S) (rs : List (List UInt8)) (G : Nat) : Prop where
  ex : ∃ f g, Flat s f ∧ CI n g rs G f
  nn : s.n = (n : Int)
  up : s.down = false
  fu : s.fused = false
  l0 : s.left = 0
theorem Good.rst (h : Good n t) (keep : List Bool) (hM : t.g ≤ M) (hM2 : M < 4294967296) : RS n (t.d.restart keep) t.rs M := by
  obtain ⟨f, hF, hI⟩ := h.ex
  have hc := hI.ci
  refine ⟨⟨f, t.g, flat_of rfl (fun k => ?_), ⟨hM2, hc.n4, hc.len, hc.now, hc.fd, fun k hk ht => Nat.le_trans (hc.tl k hk ht) hM, hM, hc.fit, hc.r8⟩⟩, h.nn, rfl, rfl, rfl⟩
  rw [← hF.safe k]
  show (Dk.doneOver t.d.safe (Dk.kept t.d.wait keep) (k : Int)).getD Dk.zeros = _
  rw [hF.1]
  cases keep <;> rfl
theorem Left.rst {A B : List (List UInt8)} {g : Nat} (h : Left n s A B g G) (keep : List Bool) (hM : G ≤ M) (hM2 : M < 4294967296) : RS n (s.restart keep) A M ∨ RS n (s.restart keep) B M := by
  obtain ⟨f', gc, rs, d1, d2, d3, d4⟩ := h.2 keep
  have hc : CI n gc rs M f' := ⟨hM2, d2.n4, d2.len, d2.now, d2.fd, fun k hk ht => Nat.le_trans (d2.tl k hk ht) hM, Nat.le_trans d2.gG hM, d2.fit, d2.r8⟩
  have key : RS n (s.restart keep) rs M := ⟨⟨f', gc, d1, hc⟩, h.1, rfl, rfl, rfl⟩
  rcases d4 with rfl | rfl
  · exact .inl key
  · exact .inr key
theorem RS.ok (h : RS n s rs G) (hn : n ≤ 4096) : Dk.Ok s 50000 := by
  obtain ⟨f, g, hF, hC⟩ := h.ex
  have := hC.n4
  exact ⟨by rw [h.nn]; omega, by rw [h.nn]; omega, by rw [h.l0]; decide, by rw [h.l0]; decide, by rw [hF.1]; simp⟩
/-- Opened with the power on. -/
theorem RS.last (h : RS n s rs G) (hG : G + 2 < 4294967296) : ¬ 4294967295 < nextOf s ∧ (begin_ s (nextOf s) (found s)).2 = 0 ∧ Good n (opened s) ∧ (opened s).rs = rs := by
  obtain ⟨f, g, hF, hC⟩ := h.ex
  obtain ⟨o1, o2⟩ := open_run hF h.nn h.up (by rw [h.l0]; decide) (by rw [h.l0]; decide) hC hG
  rcases o2 with ⟨a1, a2, a3, _⟩ | ⟨_, a2, _⟩
  · exact ⟨o1, a1, a2, a3⟩
  · rw [h.fu] at a2; cases a2
theorem down_restart (s : Dk.S) (keep : List Bool) : ({ s with down := true } : Dk.S).restart keep = s.restart keep := rfl
/-- Opened with a fuse, and cut. -/
theorem RS.again (h : RS n s rs G) (hn : n ≤ 4096) (hG : G + 2 < 4294967296) (k : Int) (hk : 0 ≤ k) (hk2 : k ≤ 9223372036854775807) :
    Dk.Ok (Wl.fuse s k) 50000 ∧ (Wl.fuse s k).down = false ∧ ¬ 4294967295 < nextOf (Wl.fuse s k) ∧
    (((begin_ (Wl.fuse s k) (nextOf (Wl.fuse s k)) (found (Wl.fuse s k))).2 = 0 ∧ (opened (Wl.fuse s k)).d.wait.length < 100000 ∧ ∀ keep, RS n (({ (opened (Wl.fuse s k)).d with down := true } : Dk.S).restart keep) rs (G + 2)) ∨
     ((begin_ (Wl.fuse s k) (nextOf (Wl.fuse s k)) (found (Wl.fuse s k))).2 = 3 ∧ (begin_ (Wl.fuse s k) (nextOf (Wl.fuse s k)) (found (Wl.fuse s k))).1.wait.length < 100000 ∧ ∀ keep, RS n (({ (begin_ (Wl.fuse s k) (nextOf (Wl.fuse s k)) (found (Wl.fuse s k))).1 with down := true } : Dk.S).restart keep) rs (G + 2))) := by
  obtain ⟨f, g, hF, hC⟩ := h.ex
  have hfz : Wl.fuse s k = { s with fused := true, left := k } := by
    unfold Wl.fuse
    rw [if_neg (by omega), if_neg (by simp [h.up])]
  have hF' : Flat (Wl.fuse s k) f := by rw [hfz]; exact hF
  have hnn' : (Wl.fuse s k).n = (n : Int) := by rw [hfz]; exact h.nn
  have hup' : (Wl.fuse s k).down = false := by rw [hfz]; exact h.up
  have hl' : (Wl.fuse s k).left = k := by rw [hfz]
  have h4 := hC.n4
  generalize Wl.fuse s k = u at *
  have hok : Dk.Ok u 50000 := ⟨by rw [hnn']; omega, by rw [hnn']; omega, by rw [hl']; exact hk, by rw [hl']; exact hk2, by rw [hF'.1]; simp⟩
  obtain ⟨o1, o2⟩ := open_run hF' hnn' hup' (by rw [hl']; exact hk) (by rw [hl']; exact hk2) hC hG
  refine ⟨hok, hup', o1, ?_⟩
  rcases o2 with ⟨a1, a2, a3, a4, a5, a6⟩ | ⟨a1, a2, a3⟩
  · refine .inl ⟨a1, ?_, fun keep => ?_⟩
    · have := (a2.fits hn).ok.ww; omega
    · rw [down_restart, ← a3]
      exact a2.rst keep a5 hG
  · refine .inr ⟨a1, ?_, fun keep => ?_⟩
    · have hnd := hC.fit
      have hfd : found u = rs := by
        have hnt : u.n.toNat = n := by rw [hnn']; simp
        rw [hF'.found (by rw [hnt]; exact hC.n4), hnt]; exact hC.fd
      obtain ⟨_, _, _, f4⟩ := begin_facts u (nextOf u) (found u) (by rw [hl']; exact hk)
      rw [hF'.1, hfd] at f4
      rw [hfd]
      have : area n ≤ 4096 := by unfold area; omega
      simp only [List.length_nil] at f4
      omega
    · rw [down_restart]
      rcases Left.rst a3 keep (Nat.le_refl _) hG with h | h <;> exact h
/-- What an act leaves: refused, done, or cut. -/
inductive Out (n : Nat) (t t2 : L) (c : Int) (B : List (List UInt8)) (M : Nat) : Prop
  | no : (c = 2 ∨ c = 6) → t2 = t → Out n t t2 c B M
  | ok : c = 0 → t2.rs = B → Fit t2 → (∀ keep, RS n (({ t2.d with down := true } : Dk.S).restart keep) B M) → Out n t t2 c B M
  | cut : c = 3 → Fit t2 → (∀ keep, RS n (({ t2.d with down := true } : Dk.S).restart keep) t.rs M ∨ RS n (({ t2.d with down := true } : Dk.S).restart keep) B M) → Out n t t2 c B M
theorem Good.out_append (h : Good n t) (hn : n ≤ 60) (hg : t.g ≤ 41) (b : List UInt8) : Out n t (t.append b) (t.acode b) (t.rs ++ [b]) 43 := by
  have hgs := ((h.gs hn hg).append b).1
  by_cases hb : 8192 < b.length
  · exact .no (.inl (append_long h.op hb).1) (append_long h.op hb).2
  · by_cases hr : t.room < (need b.length : Int)
    · exact .no (.inr (append_full h.op hb hr).1) (append_full h.op hb hr).2
    · rcases append_fits h hb hr with ⟨a1, a2, a3, a4, _⟩ | ⟨a1, a2, a3, a4, a5, a6, _⟩
      · exact .ok a1 a3 hgs.fit (fun keep => by rw [down_restart, ← a3]; exact a2.rst keep (by omega) (by decide))
      · exact .cut a1 hgs.fit (fun keep => by rw [down_restart]; exact Left.rst a6 keep (by omega) (by decide))
theorem Good.out_renew (h : Good n t) (hn : n ≤ 60) (hg : t.g ≤ 41) (l : List (List UInt8)) : Out n t (t.renew l) (t.rcode l) l 43 := by
  have hgs := ((h.gs hn hg).renew l (by decide)).1
  by_cases hl : l.any (fun b => decide (8192 < b.length)) = true
  · exact .no (.inl (renew_long h.op hl).1) (renew_long h.op hl).2
  · have hl' : l.any (fun b => decide (8192 < b.length)) = false := by simpa using hl
    by_cases hff : area n < needs l
    · exact .no (.inr (renew_full h hl' hff).1) (renew_full h hl' hff).2
    · rcases renew_fits h hl' (by omega) (by omega) with ⟨a1, a2, a3, a4, _⟩ | ⟨a1, a2, a3, a4, a5, a6, _⟩
      · exact .ok a1 a3 hgs.fit (fun keep => by rw [down_restart]; have := a2.rst keep (M := 43) (by omega) (by decide); rw [a3] at this; exact this)
      · exact .cut a1 hgs.fit (fun keep => by rw [down_restart]; exact Left.rst a6 keep (by omega) (by decide))
theorem Good.fused (h : Good n t) (k : Int) (hk : 0 ≤ k) (hk2 : k ≤ 9223372036854775807) : Good n { t with d := Wl.fuse t.d k } := by
  unfold Wl.fuse
  rw [if_neg (by omega), if_neg (by simp [h.up])]
  obtain ⟨f, hF, hI⟩ := h.ex
  exact ⟨⟨f, hF, hI⟩, h.nn, h.up, h.op, h.rm, hk, hk2⟩
end
/-- begun answered a disk and a log that is right. -/
def BegunL (w : World) (n : Nat) (e : Ending) (w' : World) : Prop := ∃ q p t, e = .returned (.tuple #[.pointer (some ⟨p, 0, none⟩), .pointer (some ⟨q, 0, none⟩), .bool true]) ∧ Hid (LiveL w (fun _ => False) w' q p t) ∧ Hid (Good n t ∧ t.d.fused = false ∧ t.g ≤ 41)
end Wl
end Go.Proofs.Ytogkaoiiddhdbaa
