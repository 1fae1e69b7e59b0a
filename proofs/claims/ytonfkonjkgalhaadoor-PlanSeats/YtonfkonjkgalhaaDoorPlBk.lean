/- What Bits and Of make of one another, as lists. -/
import Derived.Test.YtonfkonjkgalhaaDoorPlOf
namespace Go.Proofs.YtonfkonjkgalhaaDoor
set_option linter.unusedVariables false

namespace Pl
def at_ (p : P) (n : Nat) : S := (gR (all p) n, gC (all p) n)
theorem at_get (p : P) (n : Nat) (h : n < (all p).length) : (all p)[n] = at_ p n := gS _ _ h
theorem at_mem (p : P) (n : Nat) (h : n < (all p).length) : at_ p n ∈ all p := by rw [← at_get p n h]; exact List.getElem_mem h
theorem at_num {p : P} (hl : lettersOk p.lt = true) (n : Nat) (h : n < (all p).length) : num p (at_ p n) = n := by
  unfold num
  rw [if_pos (at_mem p n h), ← at_get p n h, idxOf_at h (all_nodup hl)]
theorem range_all (p : P) : (List.range (all p).length).map (at_ p) = all p := by
  apply List.ext_getElem
  · simp
  · intro i h1 h2
    simp only [List.getElem_map, List.getElem_range]
    exact (at_get p i h2).symm
theorem ofL_f (p : P) (ws : List Nat) (f : Nat → Bool) (k : Nat) (h : ∀ n, n < k → on ws n = f n) : ofL p ws k = ((List.range k).filter f).map (at_ p) := by
  unfold ofL
  rw [List.filter_congr (fun x hx => h x (List.mem_range.1 hx))]
  rfl
theorem range_cut (f : Nat → Bool) (n k : Nat) (h : n ≤ k) (hf : ∀ m, n ≤ m → m < k → f m = false) : (List.range k).filter f = (List.range n).filter f := by
  obtain ⟨d, rfl⟩ := Nat.exists_eq_add_of_le h
  clear h
  induction d with
  | zero => rfl
  | succ d ih =>
    rw [← Nat.add_assoc, List.range_succ, List.filter_append, ih (fun m h1 h2 => hf m h1 (by omega))]
    simp [hf (n + d) (by omega) (by omega)]
theorem bset_far {p : P} {l : List S} (hl : ∀ s ∈ l, s ∈ all p) (n : Nat) (h : (all p).length ≤ n) : bset p l n = false := by
  unfold bset
  rw [List.any_eq_false]
  intro s hs
  obtain ⟨j, hj, e, _⟩ := num_ix (hl s hs)
  rw [e]
  simp only [beq_iff_eq]
  omega
theorem words_all (N : Nat) : N ≤ 64 * ((N + 63) / 64) := by omega
/-- The seats of the bits of seats are these seats, in order. -/
theorem of_bits {p : P} (hp : lettersOk p.lt = true) {l : List S} (hl : ∀ s ∈ l, s ∈ all p) {ws : List Nat} (hb : Bw ws (((all p).length + 63) / 64) (bset p l)) :
    ofL p ws (64 * ws.length) = (all p).filter (fun s => l.contains s) := by
  rw [hb.len, ofL_f p ws (bset p l) _ hb.bit, range_cut (bset p l) _ _ (words_all _) (fun m h1 _ => bset_far hl m h1)]
  conv => rhs; rw [← range_all p, List.filter_map]
  congr 1
  refine List.filter_congr (fun n hn => ?_)
  rw [List.mem_range] at hn
  exact bset_mem (at_mem p n hn) (at_num hp n hn) hl
theorem bits_good {p : P} {l : List S} (hl : l.all (hasS p) = true) {ws : List Nat} (hb : Bw ws (((all p).length + 63) / 64) (bset p l)) (hp : lettersOk p.lt = true) : ∀ n, n < 64 * ws.length → on ws n = true → okN p n = true := fun n hn ho => by
  rw [hb.len] at hn
  rw [hb.bit n hn] at ho
  rw [List.all_eq_true] at hl
  have hm : ∀ s ∈ l, s ∈ all p := fun s hs => hasS_mem (hl s hs)
  have hN : n < (all p).length := by
    rcases Nat.lt_or_ge n (all p).length with h | h
    · exact h
    · rw [bset_far hm n h] at ho; cases ho
  have hc : bset p l n = l.contains (at_ p n) := bset_mem (at_mem p n hN) (at_num hp n hN) hm
  rw [ho] at hc
  unfold okN
  rw [decide_eq_true hN]
  exact hl _ (List.contains_iff_mem.1 hc.symm)
theorem ofL_has {p : P} {ws : List Nat} (h : ∀ n, n < 64 * ws.length → on ws n = true → okN p n = true) : (ofL p ws (64 * ws.length)).all (hasS p) = true := by
  rw [List.all_eq_true]
  intro s hs
  obtain ⟨n, hn, rfl⟩ := List.mem_map.1 hs
  rw [List.mem_filter, List.mem_range] at hn
  have := h n hn.1 hn.2
  simp only [okN, Bool.and_eq_true] at this
  exact this.2
theorem ofL_nodup {p : P} (hp : lettersOk p.lt = true) {ws : List Nat} (h : ∀ n, n < 64 * ws.length → on ws n = true → okN p n = true) : (ofL p ws (64 * ws.length)).Nodup := by
  unfold ofL
  have hn : ((List.range (64 * ws.length)).filter (on ws)).Nodup := List.nodup_range.filter _
  refine List.pairwise_map.2 (hn.imp_of_mem (fun {a b} ha hb hab e => ?_))
  rw [List.mem_filter, List.mem_range] at ha hb
  have h1 := h a ha.1 ha.2
  have h2 := h b hb.1 hb.2
  simp only [okN, Bool.and_eq_true, decide_eq_true_eq] at h1 h2
  have e1 := at_num hp a h1.1
  have e2 := at_num hp b h2.1
  have e3 : at_ p a = at_ p b := e
  rw [e3] at e1
  omega
theorem bset_ofL {p : P} (hp : lettersOk p.lt = true) {ws : List Nat} (h : ∀ n, n < 64 * ws.length → on ws n = true → okN p n = true) (n : Nat) (hn : n < 64 * ws.length) : on ws n = bset p (ofL p ws (64 * ws.length)) n := by
  unfold bset ofL
  rw [Bool.eq_iff_iff, List.any_eq_true]
  constructor
  · intro ho
    refine ⟨at_ p n, List.mem_map.2 ⟨n, List.mem_filter.2 ⟨List.mem_range.2 hn, ho⟩, rfl⟩, ?_⟩
    have h1 := h n hn ho
    simp only [okN, Bool.and_eq_true, decide_eq_true_eq] at h1
    rw [at_num hp n h1.1]
    simp
  · rintro ⟨s, hs, e⟩
    obtain ⟨m, hm, rfl⟩ := List.mem_map.1 hs
    rw [List.mem_filter, List.mem_range] at hm
    have h1 := h m hm.1 hm.2
    simp only [okN, Bool.and_eq_true, decide_eq_true_eq] at h1
    have e2 : num p (at_ p m) = m := at_num hp m h1.1
    have e3 : num p (at_ p m) = (n : Int) := by rw [beq_iff_eq] at e; exact e
    have : m = n := by omega
    rw [← this]
    exact hm.2
theorem bw_self {p : P} (hp : lettersOk p.lt = true) {ws : List Nat} (h64 : ∀ j, gN ws j < 18446744073709551616) (hw : ws.length = ((all p).length + 63) / 64) (h : ∀ n, n < 64 * ws.length → on ws n = true → okN p n = true) :
    Bw ws (((all p).length + 63) / 64) (bset p (ofL p ws (64 * ws.length))) := ⟨hw, h64, fun n hn => bset_ofL hp h n (by rw [hw]; exact hn)⟩
theorem seats_mem {p : P} {s : S} : s ∈ seatsOf p ↔ hasS p s = true := by
  unfold seatsOf
  rw [List.mem_filter]
  exact ⟨fun h => h.2, fun h => ⟨hasS_mem h, h⟩⟩
theorem seats_nodup {p : P} (hp : lettersOk p.lt = true) : (seatsOf p).Nodup := (all_nodup hp).filter _
/-- Picked seats among all places are picked ones among the seats. -/
theorem filter_seats {p : P} {l : List S} (hl : l.all (hasS p) = true) : (all p).filter (fun s => l.contains s) = (seatsOf p).filter (fun s => l.contains s) := by
  unfold seatsOf
  rw [List.filter_filter]
  refine List.filter_congr (fun s hs => ?_)
  rw [List.all_eq_true] at hl
  cases hc : l.contains s with
  | false => simp
  | true => rw [hl s (List.contains_iff_mem.1 hc)]; rfl
end Pl
end Go.Proofs.YtonfkonjkgalhaaDoor
