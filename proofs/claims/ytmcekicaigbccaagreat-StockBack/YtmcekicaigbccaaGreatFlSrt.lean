/- The sort of own flights. -/
import Derived.Test.YtmcekicaigbccaaGreatFlKey
import Derived.Shelf.SlSortCmp.NoneTotal
namespace Go.Proofs.YtmcekicaigbccaaGreat
open Go.RowKit Go.Sort Go.Shelf
set_option linter.unusedVariables false

namespace Fl
theorem flatK_flat (rs : List R) : (flatK enc 9 rs.toArray).toList = flat rs := by
  apply List.ext_getElem?
  intro t
  rcases Nat.lt_or_ge t (rs.length * 9) with ht | ht
  · have hd : t / 9 < rs.length := by omega
    have h1 : (flatK enc 9 rs.toArray)[t]! = (enc rs.toArray[t / 9]!)[t % 9]! := get_flatK enc 9 rs.toArray t (by simpa using ht)
    have hz : t < (flatK enc 9 rs.toArray).size := by simpa using ht
    rw [Array.getElem?_toList, Array.getElem?_eq_getElem hz, ← getElem!_pos (flatK enc 9 rs.toArray) t hz, h1]
    have h2 := flat_get rs (t / 9) hd (t % 9) (by omega)
    rw [show t / 9 * 9 + t % 9 = t by omega] at h2
    rw [h2]
    have h3 : rs.toArray[t / 9]! = rs[t / 9] := by rw [getElem!_pos rs.toArray (t / 9) (by simpa using hd)]; simp
    rw [h3]
    have h4 : t % 9 < (enc rs[t / 9]).length := by rw [enc_len]; omega
    rw [List.getElem?_eq_getElem h4, getElem!_pos (enc rs[t / 9]) (t % 9) h4]
  · rw [List.getElem?_eq_none (by simpa using ht), List.getElem?_eq_none (by rw [flat_len]; exact ht)]
theorem holds_of {w : World} {g : Nat} {cur : Array Value} {rs : List R} (hh : w.heap[g]? = some (.cells cur 62 (0, 0))) (htk : cur.toList.take (rs.length * 9) = flat rs) : HoldsK enc 9 w g 0 rs.toArray := fun j hj => by
  have hj' : j < rs.length * 9 := by simpa using hj
  refine ⟨?_, ?_⟩
  · rw [cell_of_row _ _ _ _ _ _ hh, Nat.zero_add]
    have h1 : (flat rs)[j]? = (flatK enc 9 rs.toArray)[j]? := by rw [← flatK_flat, Array.getElem?_toList]
    rw [← htk, List.getElem?_take_of_lt hj', Array.getElem?_eq_getElem hj] at h1
    rw [getElem!_pos _ j hj]
    simpa using h1
  · unfold World.frozen?
    rw [hh]
    simp
theorem putCells_take (c d : Array Value) (h : d.size ≤ c.size) : (putCells id 0 d c).toList.take d.size = d.toList ∧ (putCells id 0 d c).size = c.size := by
  refine ⟨?_, by simp [putCells]⟩
  apply List.ext_getElem?
  intro t
  rcases Nat.lt_or_ge t d.size with ht | ht
  · rw [List.getElem?_take_of_lt ht, Array.getElem?_toList, Array.getElem?_toList]
    simp [putCells, ht, Nat.lt_of_lt_of_le ht h]
  · rw [List.getElem?_eq_none (by simp; omega), List.getElem?_eq_none (by simpa using ht)]
theorem sortWorld_block (w : World) (g n : Nat) (d : Array R) (os : Array Obj) (cur : Array Value) (hh : w.heap[g]? = some (.cells cur 62 (0, 0))) :
    (sortWorldK enc 9 w g 0 n d os).heap[g]? = some (.cells (putCells id 0 (flatK enc 9 d) cur) 62 (0, 0)) := by
  have hg := Rw.lt_of_some hh
  have hz : g < ((Go.Sort.ahead w n).heap.modify g (onCells (putCells id 0 (flatK enc 9 d)))).size := by simpa [Go.Sort.ahead] using hg
  show (((Go.Sort.ahead w n).heap.modify g (onCells (putCells id 0 (flatK enc 9 d)))) ++ os)[g]? = _
  rw [Array.getElem?_append_left hz, Array.getElem?_modify, if_pos rfl]
  show Option.map _ w.heap[g]? = _
  rw [hh]
  rfl
theorem sortWorld_fr (w : World) (g n : Nat) (d : Array R) (os : Array Obj) : Rw.Fr (· = g) w (sortWorldK enc 9 w g 0 n d os) :=
  ⟨rfl, rfl, rfl, by simp [sortWorldK, grow, putRowK, putRow, mapBlock], fun k hk hne => by
    have hz : k < ((Go.Sort.ahead w n).heap.modify g (onCells (putCells id 0 (flatK enc 9 d)))).size := by simpa [Go.Sort.ahead] using hk
    show (((Go.Sort.ahead w n).heap.modify g (onCells (putCells id 0 (flatK enc 9 d)))) ++ os)[k]? = _
    rw [Array.getElem?_append_left hz, Array.getElem?_modify, if_neg (fun e => hne e.symm)]
    rfl⟩
/-- Rising by their keys. -/
def Rise (rs : List R) : Prop := ∀ i j (hj : j < rs.length) (hij : i < j), klt rs[j].f rs[i].f = false
/-- What the sort leaves of own flights: only the block of type 62 that v names has changed. -/
def SortIs (w : World) (base : Nat) (v : Value) (rs : List R) (e : Ending) (w' : World) : Prop :=
  e = .returned (.tuple #[]) ∧ ∃ rs', rs'.Perm rs ∧ Rise rs' ∧ Own w' base v rs' ∧ Rw.Fr (fun k => base ≤ k ∧ ∃ cur, w.heap[k]? = some (.cells cur 62 (0, 0))) w w'
end Fl
theorem sortOwn_any (base : Nat) (v : Value) (rs : List Fl.R) (w : World) (h : Fl.Own w base v rs) (hl : rs.length ≤ 3000) :
    Calls Tryz.prog 50 #[v, .func (.func 51) #[] #[]] w (Fl.SortIs w base v rs) := by
  obtain ⟨_, ⟨hv, h0⟩ | ⟨g, cap, cur, hv, hg, hh, hcap, hc2, hsz, htk⟩⟩ := h.row
  · have h1 : rs = [] := List.eq_nil_of_length_eq_zero h0
    subst h1 hv
    exact (Go.Proofs.AnyF.slices_SortFunc_none Tryz.sortF none 0 _ w).mono fun e w' ⟨he, hw⟩ => ⟨he, [], .refl _, (fun i j hj => absurd hj (by simp)), hw ▸ h, hw ▸ Rw.Fr.refl _ _⟩
  · subst hv
    have := sortF_any g 0 cap rs.toArray w (Fl.holds_of hh htk) (Rw.lt_of_some hh) (by simp; omega)
    simp only [List.size_toArray] at this
    refine this.mono fun e w' ⟨he, d', n, os, hp, hs, hw⟩ => ⟨he, d'.toList, ?_⟩
    obtain ⟨hz, _, hpm⟩ := hp
    have hz' : d'.size = rs.length := by simpa using hz
    have hperm : d'.toList.Perm rs := by
      have e1 : (d'.extract 0 rs.length).toList = d'.toList := by rw [← hz']; simp
      have e2 : (rs.toArray.extract 0 rs.length).toList = rs := by simp
      rw [e1, e2] at hpm
      exact hpm
    have hfr : Rw.Fr (fun k => base ≤ k ∧ ∃ cur, w.heap[k]? = some (.cells cur 62 (0, 0))) w w' := by
      rw [hw]
      exact (Rw.Fr.refl _ w).trans (Fl.sortWorld_fr w g n d' os) (fun k _ hk => by
        have hk : k = g := hk
        subst hk
        exact ⟨hg, cur, hh⟩)
    refine ⟨hperm, ?_, ?_, hfr⟩
    · intro i j hj hij
      have hj' : j < d'.size := by simpa using hj
      have := hs i j (Nat.zero_le _) hij (by omega)
      rw [getElem!_pos d' j hj', getElem!_pos d' i (by omega)] at this
      rw [Fl.ltOf_cmpR] at this
      simpa using this
    · have hb := Fl.sortWorld_block w g n d' os cur hh
      rw [← hw] at hb
      have hfs : (flatK Fl.enc 9 d').size = rs.length * 9 := by simp [hz']
      obtain ⟨t1, t2⟩ := Fl.putCells_take cur (flatK Fl.enc 9 d') (by rw [hfs, hsz]; exact Nat.mul_le_mul_right 9 hcap)
      refine ⟨⟨by rw [Fl.flat_len], .inr ⟨g, cap, _, ?_, hg, hb, ?_, hc2, by rw [t2, hsz], ?_⟩⟩, fun r hr => ?_, fun r hr => h.wf r (hperm.mem_iff.1 hr)⟩
      · rw [show d'.toList.length = rs.length by simpa using hz']
      · rw [show d'.toList.length = rs.length by simpa using hz']; exact hcap
      · rw [show d'.toList.length = rs.length by simpa using hz', ← hfs, t1]
        exact Fl.flatK_flat d'.toList
      · refine ((h.cls r (hperm.mem_iff.1 hr)).kept fun k c h1 h2 h3 => hfr.block k h2 ?_).more (Nat.le_refl _) hfr.size
        rintro ⟨_, c', h4⟩
        rw [h3] at h4
        cases h4
end Go.Proofs.YtmcekicaigbccaaGreat
