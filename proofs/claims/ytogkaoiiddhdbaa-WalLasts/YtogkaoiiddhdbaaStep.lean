/- How the sectors of a log go on: begin, append, and crashes in their midst. No Go text is spoken of here. -/
import Derived.Test.YtogkaoiiddhdbaaInv
namespace Go.Proofs.Ytogkaoiiddhdbaa

namespace Wl
section
variable {n g g' G : Nat} {rs rs' : List (List UInt8)} {f f' : Nat → List UInt8} {b : List UInt8}
theorem over_in {a i : Nat} {l : List (List UInt8)} (h : i < l.length) : over f a l (a + i) = l.getD i [] := by
  unfold over
  rw [if_pos (by omega), Nat.add_sub_cancel_left]
theorem over_out {a k : Nat} {l : List (List UInt8)} (h : ¬ (a ≤ k ∧ k < a + l.length)) : over f a l k = f k := by
  unfold over
  rw [if_neg h]
theorem getD_mem {l : List (List UInt8)} {i : Nat} (h : i < l.length) : l.getD i [] ∈ l := by
  rw [List.getD_eq_getElem?_getD, List.getElem?_eq_getElem h]
  exact List.getElem_mem h
theorem mem_allFrom (g : Nat) : ∀ (l : List (List UInt8)) (num : Nat) (x : List UInt8), x ∈ allFrom g num l → ∃ k i r, x = piece g k i r
  | [], _, x, h => by simp [allFrom] at h
  | r :: l, num, x, h => by
    rcases List.mem_append.1 h with h | h
    · obtain ⟨i, _, e⟩ := mem_pieces h
      exact ⟨num, i, r, e⟩
    · exact mem_allFrom g l (num + 1) x h
/-- What stands on one sector, over or not. -/
theorem over_cases (f : Nat → List UInt8) (a : Nat) (l : List (List UInt8)) (k : Nat) : over f a l k = f k ∨ over f a l k ∈ l := by
  by_cases h : a ≤ k ∧ k < a + l.length
  · right
    unfold over
    rw [if_pos h]
    exact getD_mem (by omega)
  · exact .inl (over_out h)
theorem inv_begin (hg : g' < 4294967296) (h4 : 4 ≤ n) (hlen : ∀ k, (f k).length = 512) (hold : ∀ k, k < n → tells (f k) = true → gen (f k) < g') (hfit : needs rs' ≤ area n) (h8 : ∀ r ∈ rs', r.length ≤ 8192) :
    Inv n g' rs' (over (over f (first n g') (all g' rs')) (g' % 2) [head g']) := by
  have hal : (all g' rs').length = needs rs' := length_allFrom g' rs' 0
  have hfl := first_le n g' h4
  have hm : g' % 2 < 2 := Nat.mod_lt _ (by omega)
  have hcase : ∀ k, over (over f (first n g') (all g' rs')) (g' % 2) [head g'] k = f k ∨ over (over f (first n g') (all g' rs')) (g' % 2) [head g'] k ∈ all g' rs' ∨ over (over f (first n g') (all g' rs')) (g' % 2) [head g'] k = head g' := fun k => by
    rcases over_cases (over f (first n g') (all g' rs')) (g' % 2) [head g'] k with h | h
    · rw [h]
      rcases over_cases f (first n g') (all g' rs') k with h1 | h1
      · exact .inl h1
      · exact .inr (.inl h1)
    · exact .inr (.inr (by simpa using h))
  have hin : ∀ i, over (over f (first n g') (all g' rs')) (g' % 2) [head g'] (first n g' + i) = over f (first n g') (all g' rs') (first n g' + i) := fun i => over_out (by simp; omega)
  refine ⟨hg, h4, fun k => ?_, ?_, fun i hi => ?_, fun i hi ha => ?_, fun k hk ht => ?_, hfit, h8⟩
  · rcases hcase k with h | h | h
    · rw [h]; exact hlen k
    · obtain ⟨_, _, _, e⟩ := mem_allFrom _ _ _ _ h
      rw [e]; exact length_piece _ _ _ _
    · rw [h]; exact length_head _
  · have := over_in (f := over f (first n g') (all g' rs')) (a := g' % 2) (i := 0) (l := [head g']) (by simp)
    simpa using this
  · rw [hin, over_in (by rw [hal]; exact hi)]
  · rw [hin, over_out (by rw [hal]; omega)]
    intro ht
    have := hold _ (by omega) ht
    omega
  · rcases hcase k with h | h | h
    · rw [h] at ht ⊢
      have := hold k hk ht
      omega
    · obtain ⟨_, _, _, e⟩ := mem_allFrom _ _ _ _ h
      rw [e, piece_gen _ _ _ _ hg]
      exact Nat.le_refl _
    · rw [h, head_gen g' hg]
      exact Nat.le_refl _
/-- Both areas lie apart. -/
theorem areas_apart (_h4 : 4 ≤ n) (hp : g % 2 ≠ g' % 2) (i j : Nat) (hi : i < area n) (hj : j < area n) : first n g + i ≠ first n g' + j := by
  unfold first
  have h0 : g % 2 = 0 ∧ g' % 2 = 1 ∨ g % 2 = 1 ∧ g' % 2 = 0 := by omega
  rcases h0 with ⟨h1, h2⟩ | ⟨h1, h2⟩ <;> rw [h1, h2] <;> omega
theorem mix_low {a : Nat} {l : List (List UInt8)} (h : Mix f a l f') (k : Nat) (hk : k < a) : f' k = f k := by
  rcases h k with h | ⟨h, _⟩
  · exact h
  · omega
/-- Power goes off while the pieces of another generation are laid. -/
theorem mix_begin (h : CI n g rs G f) (hg : g' < 4294967296) (hGg : G ≤ g') (hp : g % 2 ≠ g' % 2) (hfit : needs rs' ≤ area n) (hm : Mix f (first n g') (all g' rs') f') : CI n g rs g' f' := by
  have hal : (all g' rs').length = needs rs' := length_allFrom g' rs' 0
  have hfl := first_le n g' h.n4
  have hcase : ∀ k, f' k = f k ∨ f' k ∈ all g' rs' := fun k => by
    rcases hm k with h1 | ⟨h1, h2, h3⟩
    · exact .inl h1
    · rw [h3]; exact .inr (getD_mem (by omega))
  have hnow : nowF f' = nowF f := by
    unfold nowF
    rw [mix_low hm 0 (by omega), mix_low hm 1 (by omega)]
  have harea : areaF f' n g = areaF f n g := by
    unfold areaF
    refine List.map_congr_left (fun i hi => ?_)
    have hi' := List.mem_range.1 hi
    rcases hm (first n g + i) with h1 | ⟨h1, h2, _⟩
    · exact h1
    · rw [hal] at h2
      exact absurd (show first n g + i = first n g' + (first n g + i - first n g') by omega) (areas_apart h.n4 hp i _ hi' (by omega))
  refine ⟨hg, h.n4, fun k => ?_, hnow.trans h.now, ?_, fun k hk ht => ?_, Nat.le_trans h.gG hGg, h.fit, h.r8⟩
  · rcases hcase k with h1 | h1
    · rw [h1]; exact h.len k
    · obtain ⟨_, _, _, e⟩ := mem_allFrom _ _ _ _ h1
      rw [e]; exact length_piece _ _ _ _
  · have := h.fd
    unfold foundF at this ⊢
    rw [hnow]
    rw [h.now] at this ⊢
    simp only [if_true] at this ⊢
    rw [harea]
    exact this
  · rcases hcase k with h1 | h1
    · rw [h1] at ht ⊢
      exact Nat.le_trans (h.tl k hk ht) hGg
    · obtain ⟨_, _, _, e⟩ := mem_allFrom _ _ _ _ h1
      rw [e, piece_gen _ _ _ _ hg]
      exact Nat.le_refl _
theorem mix_over {a : Nat} {l : List (List UInt8)} : Mix f a l (over f a l) := fun k => by
  by_cases h : a ≤ k ∧ k < a + l.length
  · exact .inr ⟨h.1, h.2, by unfold over; rw [if_pos h]⟩
  · exact .inl (over_out h)
/-- Power goes off while the head is laid. -/
theorem mix_head (h : CI n g rs G f) (hg : g' < 4294967296) (hold : ∀ k, k < n → tells (f k) = true → gen (f k) < g') (hGg : G ≤ g') (hp : g % 2 ≠ g' % 2) (hfit : needs rs' ≤ area n) (h8 : ∀ r ∈ rs', r.length ≤ 8192)
    (hm : Mix (over f (first n g') (all g' rs')) (g' % 2) [head g'] f') : CI n g rs g' f' ∨ Inv n g' rs' f' := by
  have hI := inv_begin (rs' := rs') hg h.n4 h.len hold hfit h8
  have hm2 : g' % 2 < 2 := Nat.mod_lt _ (by omega)
  rcases hm (g' % 2) with h1 | ⟨_, _, h1⟩
  · left
    have e : f' = over f (first n g') (all g' rs') := by
      funext k
      rcases hm k with h2 | ⟨h2, h3, _⟩
      · exact h2
      · have : k = g' % 2 := by simp at h3; omega
        rw [this]; exact h1
    rw [e]
    exact mix_begin h hg hGg hp hfit mix_over
  · right
    have e : f' = over (over f (first n g') (all g' rs')) (g' % 2) [head g'] := by
      funext k
      by_cases hk : k = g' % 2
      · rw [hk, h1]
        unfold over
        rw [if_pos (by simp)]
      · rcases hm k with h2 | ⟨h2, h3, _⟩
        · rw [h2]
          exact (over_out (f := over f (first n g') (all g' rs')) (a := g' % 2) (l := [head g']) (by simp; omega)).symm
        · simp at h3; omega
    rw [e]
    exact hI
/-- One record more. -/
theorem inv_append (h : Inv n g rs f) (hfit : needs rs + need b.length ≤ area n) (hb : b.length ≤ 8192) : Inv n g (rs ++ [b]) (over f (first n g + needs rs) (pieces g rs.length b)) := by
  have hpl := length_pieces g rs.length b
  have hfl := first_le n g h.n4
  have hal : (all g rs).length = needs rs := length_allFrom g rs 0
  have hnd : needs (rs ++ [b]) = needs rs + need b.length := by rw [needs_append, needs_cons, needs_nil, Nat.add_zero]
  have hall : all g (rs ++ [b]) = all g rs ++ pieces g rs.length b := by
    unfold all
    rw [allFrom_append, Nat.zero_add]
    simp [allFrom]
  have hm2 : g % 2 < 2 := Nat.mod_lt _ (by omega)
  refine ⟨h.gl, h.n4, fun k => ?_, ?_, fun i hi => ?_, fun i hi ha => ?_, fun k hk ht => ?_, by omega, fun r hr => ?_⟩
  · rcases over_cases f (first n g + needs rs) (pieces g rs.length b) k with h1 | h1
    · rw [h1]; exact h.len k
    · obtain ⟨i, _, e⟩ := mem_pieces h1
      rw [e]; exact length_piece _ _ _ _
  · rw [over_out (by omega)]; exact h.hd
  · rw [hall]
    by_cases hlt : i < needs rs
    · rw [over_out (by omega), h.ar i hlt, List.getD_eq_getElem?_getD, List.getD_eq_getElem?_getD, List.getElem?_append_left (by omega)]
    · rw [show first n g + i = first n g + needs rs + (i - needs rs) by omega, over_in (by omega), List.getD_eq_getElem?_getD, List.getD_eq_getElem?_getD, List.getElem?_append_right (by omega), hal]
  · rw [over_out (by omega)]
    exact h.rest i (by omega) ha
  · rcases over_cases f (first n g + needs rs) (pieces g rs.length b) k with h1 | h1
    · rw [h1] at ht ⊢; exact h.tl k hk ht
    · obtain ⟨i, _, e⟩ := mem_pieces h1
      rw [e, piece_gen _ _ _ _ h.gl]
      exact Nat.le_refl _
  · rcases List.mem_append.1 hr with hr | hr
    · exact h.r8 r hr
    · simp at hr; rw [hr]; exact hb
/-- Power goes off in an append. -/
theorem mix_append (h : Inv n g rs f) (hfit : needs rs + need b.length ≤ area n) (hb : b.length ≤ 8192) (hm : Mix f (first n g + needs rs) (pieces g rs.length b) f') : CI n g rs g f' ∨ CI n g (rs ++ [b]) g f' := by
  have hpl := length_pieces g rs.length b
  have hfl := first_le n g h.n4
  have hcase : ∀ k, f' k = f k ∨ f' k ∈ pieces g rs.length b := fun k => by
    rcases hm k with h1 | ⟨h1, h2, h3⟩
    · exact .inl h1
    · rw [h3]; exact .inr (getD_mem (by omega))
  have hlen : ∀ k, (f' k).length = 512 := fun k => by
    rcases hcase k with h1 | h1
    · rw [h1]; exact h.len k
    · obtain ⟨i, _, e⟩ := mem_pieces h1
      rw [e]; exact length_piece _ _ _ _
  have hnow : nowF f' = (g, true) := by
    unfold nowF
    rw [mix_low hm 0 (by omega), mix_low hm 1 (by omega)]
    exact h.now
  have htl : ∀ k, k < n → tells (f' k) = true → gen (f' k) ≤ g := fun k hk ht => by
    rcases hcase k with h1 | h1
    · rw [h1] at ht ⊢; exact h.tl k hk ht
    · obtain ⟨i, _, e⟩ := mem_pieces h1
      rw [e, piece_gen _ _ _ _ h.gl]
      exact Nat.le_refl _
  have har : ∀ i, i < needs rs → f' (first n g + i) = (all g rs).getD i [] := fun i hi => by rw [mix_low hm _ (by omega)]; exact h.ar i hi
  by_cases hful : ∀ i, i < need b.length → f' (first n g + needs rs + i) = (pieces g rs.length b).getD i []
  · right
    have e : ∀ i, i < area n → f' (first n g + i) = over f (first n g + needs rs) (pieces g rs.length b) (first n g + i) := fun i hi => by
      by_cases h1 : needs rs ≤ i ∧ i < needs rs + need b.length
      · rw [show first n g + i = first n g + needs rs + (i - needs rs) by omega, hful _ (by omega), over_in (by omega)]
      · rw [over_out (by omega)]
        rcases hm (first n g + i) with h2 | ⟨h2, h3, _⟩
        · exact h2
        · omega
    have hI := inv_append h hfit hb
    refine ⟨h.gl, h.n4, hlen, hnow, ?_, htl, Nat.le_refl _, hI.fit, hI.r8⟩
    have hfd := hI.found
    unfold foundF at hfd ⊢
    rw [hI.now] at hfd
    rw [hnow]
    simp only [if_true] at hfd ⊢
    rw [← hfd]
    congr 1
    unfold areaF
    exact List.map_congr_left (fun i hi => e i (List.mem_range.1 hi))
  · left
    refine ⟨h.gl, h.n4, hlen, hnow, ?_, htl, Nat.le_refl _, h.fit, h.r8⟩
    unfold foundF
    rw [hnow]
    simp only [if_true]
    -- the records of before, and then none
    have hal : (all g rs).length = needs rs := length_allFrom g rs 0
    have hsp : areaF f' n g = all g rs ++ (areaF f' n g).drop (needs rs) := by
      have ht : (areaF f' n g).take (needs rs) = all g rs := by
        apply List.ext_getElem
        · simp [areaF, hal]; omega
        · intro i h1 h2
          have hi : i < needs rs := by rw [hal] at h2; exact h2
          simp only [areaF, List.getElem_take, List.getElem_map, List.getElem_range]
          rw [har i hi]
          simp [List.getD, h2]
      conv => lhs; rw [← List.take_append_drop (needs rs) (areaF f' n g), ht]
    unfold recs
    rw [hsp]
    unfold all
    refine recsOf_all g rs 0 _ _ h.r8 ?_ ?_
    · rw [Nat.zero_add]
      have hdl : ∀ s ∈ (areaF f' n g).drop (needs rs), s.length = 512 := fun s hs => areaF_len hlen s (List.mem_of_mem_drop hs)
      cases hfr : firstRec ((areaF f' n g).drop (needs rs)) g rs.length with
      | none => rfl
      | some r =>
        exfalso
        have hget : ∀ i, needs rs + i < area n → ((areaF f' n g).drop (needs rs))[i]? = some (f' (first n g + needs rs + i)) := fun i hi => by
          rw [List.getElem?_drop]
          simp [areaF, hi]
          congr 1
          omega
        obtain ⟨h1, h2, h3, h4⟩ := firstRec_some hdl hfr
        have hdlen : ((areaF f' n g).drop (needs rs)).length = area n - needs rs := by simp [areaF]
        rw [hdlen] at h3
        have hpc : ∀ i, i < need r.length → f' (first n g + needs rs + i) = piece g rs.length i r := fun i hi => by
          have e1 := hget i (by omega)
          have e2 : (((areaF f' n g).drop (needs rs)).take (need r.length))[i]? = some (f' (first n g + needs rs + i)) := by rw [List.getElem?_take_of_lt hi]; exact e1
          rw [h4, List.getElem?_eq_getElem (by rw [length_pieces]; exact hi), get_pieces g rs.length r i hi] at e2
          injection e2 with e2
          exact e2.symm
        have key : ∀ i, i < need r.length → i < need b.length ∧ f' (first n g + needs rs + i) = (pieces g rs.length b).getD i [] := fun i hi => by
          rcases hm (first n g + needs rs + i) with q | ⟨q1, q2, q3⟩
          · have hst := h.rest (needs rs + i) (by omega) (by omega)
            rw [← Nat.add_assoc, ← q, hpc i hi] at hst
            exact absurd (piece_gen g rs.length i r h.gl) (hst (piece_tells g rs.length i r))
          · rw [hpl] at q2
            rw [Nat.add_sub_cancel_left] at q3
            exact ⟨by omega, q3⟩
        have k0 := key 0 (need_pos _)
        have e0 : piece g rs.length 0 r = piece g rs.length 0 b := by
          rw [← hpc 0 (need_pos _), k0.2]
          rw [List.getD_eq_getElem?_getD, List.getElem?_eq_getElem (by rw [hpl]; exact k0.1), get_pieces g rs.length b 0 k0.1]
          rfl
        have hrb : r.length = b.length := by
          have := congrArg lenAt e0
          rwa [piece_lenAt _ _ _ _ h2, piece_lenAt _ _ _ _ hb] at this
        exact hful (fun i hi => (key i (by rw [hrb]; exact hi)).2)
    · rw [List.length_append, List.length_drop, length_allFrom]
      omega
end
end Wl
end Go.Proofs.Ytogkaoiiddhdbaa
