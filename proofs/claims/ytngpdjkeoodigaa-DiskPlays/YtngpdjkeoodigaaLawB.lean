/- What DiskKeeps needs besides: what a crash would leave, as the writes go on. -/
import Derived.Test.YtngpdjkeoodigaaLawA
namespace Go.Proofs.Ytngpdjkeoodigaa
open Go.RowKit

namespace Dk
theorem get_restart (s : S) (m : List Bool) (k : Int) : (s.restart m).get k = (lastFrom k (kept s.wait m) (s.safe k)).getD zeros := rfl
theorem restart_put_get {s : S} {m : List Bool} (a : Int) (L : List UInt8) (h : m.getD s.wait.length false = true) (k : Int) : ((s.put a L).restart m).get k = if k = a then L else (s.restart m).get k := by
  rw [get_restart, get_restart]
  show (lastFrom k (kept (s.wait ++ [(a, L)]) m) (s.safe k)).getD zeros = _
  rw [kept_snoc, h, if_pos rfl, lastFrom_append]
  simp only [lastFrom]
  by_cases hk : k = a
  · subst hk; rw [if_pos rfl, if_pos rfl]; rfl
  · rw [if_neg (Ne.symm hk), if_neg hk]
theorem restart_put_lost {s : S} {m : List Bool} (a : Int) (L : List UInt8) (h : m.getD s.wait.length false = false) (k : Int) : ((s.put a L).restart m).get k = (s.restart m).get k := by
  rw [get_restart, get_restart]
  show (lastFrom k (kept (s.wait ++ [(a, L)]) m) (s.safe k)).getD zeros = _
  rw [kept_snoc, h]
  simp
theorem secs_set {s t : S} (a : Nat) (L : List UInt8) (h : ∀ k, t.get k = if k = (a : Int) then L else s.get k) : secs t 6 = (secs s 6).set a L := by
  apply List.ext_getElem?
  intro j
  by_cases hj : j < 6
  · rw [List.getElem?_set, length_secs]
    simp only [secs, List.getElem?_map, List.getElem?_range hj, Option.map_some]
    rw [h]
    by_cases e : a = j
    · subst e; simp [hj]
    · rw [if_neg e, if_neg (by omega)]
  · rw [List.getElem?_eq_none (by rw [length_secs]; omega), List.getElem?_eq_none (by rw [List.length_set, length_secs]; omega)]
theorem restart_empty {s : S} (h : s.wait = []) (m : List Bool) (k : Int) : (s.restart m).get k = s.get k := by
  simp [S.get, S.restart, h, kept, doneOver, lastW, lastFrom]
/-- A text laid into a row of texts. -/
theorem Txs.set {w : World} {base g n cap : Nat} {l : List (List UInt8)} (h : Txs w base (.slice (some ⟨g, 0, none⟩) n cap) l) (j : Nat) (b : List UInt8) : Txs (w.setCell ⟨g, j, none⟩ (str b)) base (.slice (some ⟨g, 0, none⟩) n cap) (l.set j b) := by
  obtain ⟨h1, h2⟩ := h
  refine ⟨by simp, ?_⟩
  rcases h2 with ⟨h2, _⟩ | ⟨g', cap', cur, hv, hg, hh, hle, hmx, hsz, htk⟩
  · cases h2
  · injection hv with hv e2 e3
    injection hv with hv
    injection hv with hv
    subst hv
    refine .inr ⟨g, cap, cur.setIfInBounds j (str b), by rw [List.length_set, ← e2], hg, set_row hh j (str b), by rw [List.length_set]; omega, by omega, by simp [hsz, e3], ?_⟩
    rw [Array.toList_setIfInBounds, List.length_set, List.take_set, htk, List.map_set]
theorem Txs.free {w : World} {base g n cap : Nat} {l : List (List UInt8)} (h : Txs w base (.slice (some ⟨g, 0, none⟩) n cap) l) (j : Nat) : w.frozen? ⟨g, j, none⟩ = false := by
  rcases h.2 with ⟨h2, _⟩ | ⟨g', cap', cur, hv, hg, hh, _⟩
  · cases h2
  · injection hv with hv
    injection hv with hv
    injection hv with hv
    subst hv
    simp [World.frozen?, hh]
/-- The sector that round j lays. -/
def lth (j : Nat) : List UInt8 := full [UInt8.ofNat j, UInt8.ofNat 200]
theorem length_lth (j : Nat) : (lth j).length = 512 := length_full _
theorem Calm.put {k : Nat} {s : S} (h : Calm k s) (i : Int) (l : List UInt8) : Calm (k + 1) (s.put i l) := ⟨h.n6, h.up, h.nf, h.l0, by simp [S.put, h.wk]⟩
theorem Calm.cut' {k : Nat} {s : S} (h : Calm k s) (m : List Bool) : Calm 0 (({ s with down := true } : S).restart m) := ⟨h.n6, rfl, rfl, rfl, by simp [S.restart]⟩
theorem cut_restart (s : S) (m : List Bool) : ({ s with down := true } : S).restart m = s.restart m := rfl
end Dk
theorem write_far {w0 w : World} {X : Nat → Prop} {p : Nat} {s : Dk.S} {g : Nat} {l : List UInt8} {c : Nat} {i : Int} (h : Dk.Ready w0 X w p s g l) (hl5 : l.length = 512) (h1 : s.has i = false) (hw : s.wait.length < 100000) (hl : 0 ≤ s.left) (hl2 : s.left ≤ 9223372036854775807) :
    Calls Try.prog 16 #[.pointer (some ⟨p, 0, none⟩), .int .i64 i, .slice (some ⟨g, 0, none⟩) 512 c] w fun e w' => e = .returned (.int .i64 1) ∧ Hid (Dk.Ready w0 X w' p s g l) ∧ Hid (Dk.Same X w w') := by
  have := write_live (c := c) i h hl5 hw hl hl2
  have e : s.write i l = s := by unfold Dk.S.write; rw [if_pos h1]
  rwa [Dk.wcode_far h1, e] at this
end Go.Proofs.Ytngpdjkeoodigaa
