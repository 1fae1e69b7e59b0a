/- The sort of own rows of legs. -/
import Derived.Test.YtfodabbmjggieaaGreatHdLeg
namespace Go.Proofs.YtfodabbmjggieaaGreat
open Go.RowKit Go.Sort Go.Shelf
set_option linter.unusedVariables false

namespace Hd
/-- Rising by llt. -/
def RiseL (ls : List L) : Prop := ∀ i j (hj : j < ls.length) (hij : i < j), llt ls[j] ls[i] = false
theorem flatK_flatL (ls : List L) : (flatK encL 3 ls.toArray).toList = flatL ls := by
  apply List.ext_getElem?
  intro t
  rcases Nat.lt_or_ge t (ls.length * 3) with ht | ht
  · have hd : t / 3 < ls.length := by omega
    have h1 : (flatK encL 3 ls.toArray)[t]! = (encL ls.toArray[t / 3]!)[t % 3]! := get_flatK encL 3 ls.toArray t (by simpa using ht)
    have hz : t < (flatK encL 3 ls.toArray).size := by simpa using ht
    rw [Array.getElem?_toList, Array.getElem?_eq_getElem hz, ← getElem!_pos (flatK encL 3 ls.toArray) t hz, h1]
    have h2 := flatL_get ls (t / 3) hd (t % 3) (by omega)
    rw [show t / 3 * 3 + t % 3 = t by omega] at h2
    rw [h2]
    have h3 : ls.toArray[t / 3]! = ls[t / 3] := by rw [getElem!_pos ls.toArray (t / 3) (by simpa using hd)]; simp
    rw [h3]
    have h4 : t % 3 < (encL ls[t / 3]).length := by rw [encL_len]; omega
    rw [List.getElem?_eq_getElem h4, getElem!_pos (encL ls[t / 3]) (t % 3) h4]
  · rw [List.getElem?_eq_none (by simpa using ht), List.getElem?_eq_none (by rw [flatL_len]; exact ht)]
theorem holdsL {w : World} {g : Nat} {cur : Array Value} {ls : List L} (hh : w.heap[g]? = some (.cells cur 35 (0, 0))) (htk : cur.toList.take (ls.length * 3) = flatL ls) : HoldsK encL 3 w g 0 ls.toArray := fun j hj => by
  have hj' : j < ls.length * 3 := by simpa using hj
  refine ⟨?_, ?_⟩
  · rw [cell_of_row _ _ _ _ _ _ hh, Nat.zero_add]
    have h1 : (flatL ls)[j]? = (flatK encL 3 ls.toArray)[j]? := by rw [← flatK_flatL, Array.getElem?_toList]
    rw [← htk, List.getElem?_take_of_lt hj', Array.getElem?_eq_getElem hj] at h1
    rw [getElem!_pos _ j hj]
    simpa using h1
  · unfold World.frozen?
    rw [hh]
    simp
theorem sortWorldL_block (w : World) (g n : Nat) (d : Array L) (os : Array Obj) (cur : Array Value) (hh : w.heap[g]? = some (.cells cur 35 (0, 0))) :
    (sortWorldK encL 3 w g 0 n d os).heap[g]? = some (.cells (putCells id 0 (flatK encL 3 d) cur) 35 (0, 0)) := by
  have hg := Rw.lt_of_some hh
  have hz : g < ((Go.Sort.ahead w n).heap.modify g (onCells (putCells id 0 (flatK encL 3 d)))).size := by simpa [Go.Sort.ahead] using hg
  show (((Go.Sort.ahead w n).heap.modify g (onCells (putCells id 0 (flatK encL 3 d)))) ++ os)[g]? = _
  rw [Array.getElem?_append_left hz, Array.getElem?_modify, if_pos rfl]
  show Option.map _ w.heap[g]? = _
  rw [hh]
  rfl
theorem sortWorldL_fr (w : World) (g n : Nat) (d : Array L) (os : Array Obj) : Rw.Fr (· = g) w (sortWorldK encL 3 w g 0 n d os) :=
  ⟨rfl, rfl, rfl, by simp [sortWorldK, grow, putRowK, putRow, mapBlock], fun k hk hne => by
    have hz : k < ((Go.Sort.ahead w n).heap.modify g (onCells (putCells id 0 (flatK encL 3 d)))).size := by simpa [Go.Sort.ahead] using hk
    show (((Go.Sort.ahead w n).heap.modify g (onCells (putCells id 0 (flatK encL 3 d)))) ++ os)[k]? = _
    rw [Array.getElem?_append_left hz, Array.getElem?_modify, if_neg (fun e => hne e.symm)]
    rfl⟩
def SortLIs (w : World) (base : Nat) (v : Value) (ls : List L) (e : Ending) (w' : World) : Prop :=
  e = .returned (.tuple #[]) ∧ ∃ ls', ls'.Perm ls ∧ RiseL ls' ∧ OwnL w' base v ls' ∧ Below base w w'
end Hd
theorem sortOwnL_any (base : Nat) (v : Value) (ls : List Hd.L) (w : World) (h : Hd.OwnL w base v ls) (hl : ls.length ≤ 100000) (hbase : base ≤ w.heap.size) :
    Calls Tryz.prog 56 #[v, .func (.func 38) #[] #[]] w (Hd.SortLIs w base v ls) := by
  obtain ⟨_, ⟨hv, h0⟩ | ⟨g, cap, cur, hv, hg, hh, hcap, hc2, hsz, htk⟩⟩ := id h
  · have h1 : ls = [] := List.eq_nil_of_length_eq_zero h0
    subst h1 hv
    exact (Go.Proofs.AnyF.slices_SortFunc_none Tryz.sortL none 0 _ w).mono fun e w' ⟨he, hw⟩ => ⟨he, [], .refl _, (fun i j hj => absurd hj (by simp)), hw ▸ h, hw ▸ Below.refl _ _⟩
  · subst hv
    have := sortL_any g 0 cap ls.toArray w (Hd.holdsL hh htk) (Rw.lt_of_some hh) (by simp; omega)
    simp only [List.size_toArray] at this
    refine this.mono fun e w' ⟨he, d', n, os, hp, hs, hw⟩ => ⟨he, d'.toList, ?_⟩
    obtain ⟨hz, _, hpm⟩ := hp
    have hz' : d'.size = ls.length := by simpa using hz
    have hperm : d'.toList.Perm ls := by
      have e1 : (d'.extract 0 ls.length).toList = d'.toList := by rw [← hz']; simp
      have e2 : (ls.toArray.extract 0 ls.length).toList = ls := by simp
      rw [e1, e2] at hpm
      exact hpm
    refine ⟨hperm, ?_, ?_, ?_⟩
    · intro i j hj hij
      have hj' : j < d'.size := by simpa using hj
      have := hs i j (Nat.zero_le _) hij (by omega)
      rw [getElem!_pos d' j hj', getElem!_pos d' i (by omega)] at this
      rw [Hd.ltOf_cmpL] at this
      simpa using this
    · have hb := Hd.sortWorldL_block w g n d' os cur hh
      rw [← hw] at hb
      have hfs : (flatK Hd.encL 3 d').size = ls.length * 3 := by simp [hz']
      obtain ⟨t1, t2⟩ := Fl.putCells_take cur (flatK Hd.encL 3 d') (by rw [hfs, hsz]; exact Nat.mul_le_mul_right 3 hcap)
      have hlen : d'.toList.length = ls.length := by simpa using hz'
      refine ⟨by rw [Hd.flatL_len], .inr ⟨g, cap, _, by rw [hlen], hg, hb, by rw [hlen]; exact hcap, hc2, by rw [t2, hsz], ?_⟩⟩
      rw [hlen, ← hfs, t1]
      exact Hd.flatK_flatL d'.toList
    · rw [hw]
      exact (Hd.sortWorldL_fr w g n d' os).below hbase (fun k hk => by have : k = g := hk; omega)
end Go.Proofs.YtfodabbmjggieaaGreat
