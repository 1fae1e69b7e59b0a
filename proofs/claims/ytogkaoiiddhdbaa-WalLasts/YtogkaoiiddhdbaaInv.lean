/- What holds of the sectors of a log, always. No Go text is spoken of here. -/
import Derived.Test.YtogkaoiiddhdbaaFind
namespace Go.Proofs.Ytogkaoiiddhdbaa

namespace Wl
def secsF (f : Nat → List UInt8) (n : Nat) : List (List UInt8) := (List.range n).map f
def nowF (f : Nat → List UInt8) : Nat × Bool := cur (f 0) (f 1)
def areaF (f : Nat → List UInt8) (n g : Nat) : List (List UInt8) := (List.range (area n)).map fun i => f (first n g + i)
def foundF (f : Nat → List UInt8) (n : Nat) : List (List UInt8) := if (nowF f).2 = true then recs (areaF f n (nowF f).1) (nowF f).1 else []
def nextF (f : Nat → List UInt8) (n : Nat) : Nat := next (secsF f n) (nowF f).1
theorem first_le (n g : Nat) (h : 4 ≤ n) : 2 ≤ first n g ∧ first n g + area n ≤ n := by
  unfold first area
  have : g % 2 = 0 ∨ g % 2 = 1 := by omega
  rcases this with h | h <;> rw [h] <;> omega
theorem area_eq (f : Nat → List UInt8) (n g : Nat) (h : 4 ≤ n) : ((secsF f n).drop (first n g)).take (area n) = areaF f n g := by
  have := first_le n g h
  apply List.ext_getElem
  · simp [secsF, areaF]; omega
  · intro i h1 h2
    simp [secsF, areaF]
section
variable {s : Dk.S} {f : Nat → List UInt8}
theorem Flat.secs (h : Flat s f) : Wl.secs s = secsF f s.n.toNat := by
  unfold Wl.secs secsF
  exact List.map_congr_left (fun i _ => h.2 i)
theorem Flat.now (h : Flat s f) : Wl.now s = nowF f := by
  have h0 := h.2 0
  have h1 := h.2 1
  unfold Wl.now nowF
  rw [← h0, ← h1]
  rfl
theorem Flat.found (h : Flat s f) (h4 : 4 ≤ s.n.toNat) : Wl.found s = foundF f s.n.toNat := by
  unfold Wl.found foundF
  rw [h.now, h.secs, area_eq f _ _ h4]
theorem Flat.next (h : Flat s f) : Wl.nextOf s = nextF f s.n.toNat := by
  unfold Wl.nextOf nextF
  rw [h.now, h.secs]
end
theorem pieces_cons (g num : Nat) (r : List UInt8) : ∃ l, pieces g num r = piece g num 0 r :: l := by
  have h := need_pos r.length
  unfold pieces
  obtain ⟨m, hm⟩ : ∃ m, need r.length = m + 1 := ⟨need r.length - 1, by omega⟩
  rw [hm, List.range_succ_eq_map]
  exact ⟨_, rfl⟩
theorem firstRec_yes (g num : Nat) (r : List UInt8) (rest : List (List UInt8)) (hr : r.length ≤ 8192) : firstRec (pieces g num r ++ rest) g num = some r := by
  obtain ⟨l, hl⟩ := pieces_cons g num r
  have hlen : (pieces g num r ++ rest).length = need r.length + rest.length := by rw [List.length_append, length_pieces]
  have htk : (pieces g num r ++ rest).take (need r.length) = pieces g num r := by
    rw [List.take_append_of_le_length (by rw [length_pieces]; exact Nat.le_refl _), List.take_of_length_le (by rw [length_pieces]; exact Nat.le_refl _)]
  have hb : (bodies (pieces g num r)).take r.length = r := by
    have := bodies_pieces g num r (need r.length) (Nat.le_refl _)
    rw [List.take_of_length_le (l := pieces g num r) (by rw [length_pieces]; exact Nat.le_refl _), List.take_of_length_le (l := r) (need_mul _)] at this
    exact this
  have hc : pieces g num r ++ rest = piece g num 0 r :: (l ++ rest) := by rw [hl]; rfl
  have hdef : firstRec (pieces g num r ++ rest) g num = if 8192 < lenAt (piece g num 0 r) then none else if (pieces g num r ++ rest).length < need (lenAt (piece g num 0 r)) then none
      else if (pieces g num r ++ rest).take (need (lenAt (piece g num 0 r))) = pieces g num ((bodies ((pieces g num r ++ rest).take (need (lenAt (piece g num 0 r))))).take (lenAt (piece g num 0 r))) then some ((bodies ((pieces g num r ++ rest).take (need (lenAt (piece g num 0 r))))).take (lenAt (piece g num 0 r))) else none := by
    rw [hc]
    rfl
  rw [hdef, piece_lenAt g num 0 r hr, if_neg (by omega), if_neg (by omega), htk, hb, if_pos rfl]
/-- A sector that is no piece of generation g. -/
def Stale (g : Nat) (s : List UInt8) : Prop := tells s = true → gen s ≠ g
theorem firstRec_head {secs : List (List UInt8)} {g num : Nat} {r : List UInt8} (hl : ∀ s ∈ secs, s.length = 512) (h : firstRec secs g num = some r) : secs[0]? = some (piece g num 0 r) := by
  obtain ⟨h1, _, h3, h4⟩ := firstRec_some hl h
  obtain ⟨l, hp⟩ := pieces_cons g num r
  rw [hp] at h4
  have := congrArg (fun l => l[0]?) h4
  simp only [List.getElem?_cons_zero] at this
  rw [List.getElem?_take_of_lt (need_pos _)] at this
  exact this
theorem firstRec_stale {secs : List (List UInt8)} {g num : Nat} (hg : g < 4294967296) (hl : ∀ s ∈ secs, s.length = 512) (h : ∀ s, secs[0]? = some s → Stale g s) : firstRec secs g num = none := by
  cases hf : firstRec secs g num with
  | none => rfl
  | some r =>
    have h0 := firstRec_head hl hf
    exact absurd (piece_gen g num 0 r hg) (h _ h0 (piece_tells g num 0 r))
theorem recsOf_all (g : Nat) : ∀ (rs : List (List UInt8)) (num f : Nat) (rest : List (List UInt8)), (∀ r ∈ rs, r.length ≤ 8192) → firstRec rest g (num + rs.length) = none → needs rs + rest.length ≤ f → recsOf f (allFrom g num rs ++ rest) g num = rs
  | [], num, f, rest, _, h, _ => by
    rw [allFrom, List.nil_append]
    rw [List.length_nil, Nat.add_zero] at h
    cases f with
    | zero => rfl
    | succ f => unfold recsOf; rw [h]
  | r :: rs, num, f, rest, h8, h, hf => by
    rw [needs_cons] at hf
    have hp := need_pos r.length
    obtain ⟨f', rfl⟩ : ∃ f', f = f' + 1 := ⟨f - 1, by omega⟩
    rw [allFrom, List.append_assoc]
    unfold recsOf
    rw [firstRec_yes g num r _ (h8 r (by simp))]
    simp only
    rw [List.drop_append_of_le_length (by rw [length_pieces]; exact Nat.le_refl _), List.drop_eq_nil_of_le (by rw [length_pieces]; exact Nat.le_refl _), List.nil_append]
    rw [recsOf_all g rs (num + 1) f' rest (fun x hx => h8 x (by simp [hx])) (by rw [show num + 1 + rs.length = num + (r :: rs).length by simp; omega]; exact h) (by omega)]

structure Inv (n g : Nat) (rs : List (List UInt8)) (f : Nat → List UInt8) : Prop where
  gl : g < 4294967296
  n4 : 4 ≤ n
  len : ∀ k, (f k).length = 512
  hd : f (g % 2) = head g
  ar : ∀ i, i < needs rs → f (first n g + i) = (all g rs).getD i []
  rest : ∀ i, needs rs ≤ i → i < area n → Stale g (f (first n g + i))
  tl : ∀ k, k < n → tells (f k) = true → gen (f k) ≤ g
  fit : needs rs ≤ area n
  r8 : ∀ r ∈ rs, r.length ≤ 8192
structure CI (n g : Nat) (rs : List (List UInt8)) (G : Nat) (f : Nat → List UInt8) : Prop where
  gl : G < 4294967296
  n4 : 4 ≤ n
  len : ∀ k, (f k).length = 512
  now : nowF f = (g, true)
  fd : foundF f n = rs
  tl : ∀ k, k < n → tells (f k) = true → gen (f k) ≤ G
  gG : g ≤ G
  fit : needs rs ≤ area n
  r8 : ∀ r ∈ rs, r.length ≤ 8192
section
variable {n g G : Nat} {rs : List (List UInt8)} {f f' : Nat → List UInt8}
theorem isHead_head {s : List UInt8} {i : Nat} (h : isHead s i = true) : gen s % 2 = i ∧ s = head (gen s) := by
  unfold isHead at h
  simpa using h
theorem head_isHead (g : Nat) (hg : g < 4294967296) : isHead (head g) (g % 2) = true := by
  unfold isHead
  rw [head_gen g hg]
  simp
theorem Inv.now (h : Inv n g rs f) : nowF f = (g, true) := by
  have hg := h.gl
  have hh := head_isHead g hg
  have key : ∀ i, i < 2 → i ≠ g % 2 → isHead (f i) i = true → gen (f i) < g := fun i hi hne hq => by
    obtain ⟨h1, h2⟩ := isHead_head hq
    have h3 : tells (f i) = true := by rw [h2]; exact head_tells _
    have := h.tl i (by have := h.n4; omega) h3
    have : gen (f i) ≠ g := fun e => hne (by rw [← e]; exact h1.symm)
    omega
  unfold nowF cur
  rcases (show g % 2 = 0 ∨ g % 2 = 1 by omega) with h0 | h0
  · have e0 : f 0 = head g := by have := h.hd; rw [h0] at this; exact this
    rw [h0] at hh
    rw [e0, hh, head_gen g hg]
    simp only [if_true]
    by_cases h1 : isHead (f 1) 1 = true
    · have := key 1 (by omega) (by omega) h1
      rw [h1]
      simp
      omega
    · simp only [h1]
      simp
  · have e1 : f 1 = head g := by have := h.hd; rw [h0] at this; exact this
    rw [h0] at hh
    rw [e1, hh, head_gen g hg]
    simp only [if_true]
    by_cases h1 : isHead (f 0) 0 = true
    · have := key 0 (by omega) (by omega) h1
      rw [h1]
      simp
      omega
    · simp only [h1]
      simp
theorem areaF_len (h : ∀ k, (f k).length = 512) : ∀ s ∈ areaF f n g, s.length = 512 := fun s hs => by
  simp only [areaF, List.mem_map] at hs
  obtain ⟨i, _, rfl⟩ := hs
  exact h _
/-- An area that begins with all pieces of some records, with no further one behind them. -/
theorem recs_of (hg : g < 4294967296) (hlen : ∀ k, (f k).length = 512) (har : ∀ i, i < needs rs → f (first n g + i) = (all g rs).getD i []) (hst : ∀ i, i = needs rs → i < area n → Stale g (f (first n g + i))) (hfit : needs rs ≤ area n) (h8 : ∀ r ∈ rs, r.length ≤ 8192) : recs (areaF f n g) g = rs := by
  have hal : (all g rs).length = needs rs := length_allFrom g rs 0
  have hsp : areaF f n g = all g rs ++ (areaF f n g).drop (needs rs) := by
    have ht : (areaF f n g).take (needs rs) = all g rs := by
      apply List.ext_getElem
      · simp [areaF, hal]; omega
      · intro i h1 h2
        have hi : i < needs rs := by rw [hal] at h2; exact h2
        simp only [areaF, List.getElem_take, List.getElem_map, List.getElem_range]
        rw [har i hi]
        simp [List.getD, h2]
    conv => lhs; rw [← List.take_append_drop (needs rs) (areaF f n g), ht]
  unfold recs
  rw [hsp]
  unfold all
  refine recsOf_all g rs 0 _ _ h8 ?_ ?_
  · refine firstRec_stale hg (fun s hs => areaF_len hlen s (List.mem_of_mem_drop hs)) (fun s hs => ?_)
    rw [List.getElem?_drop, Nat.add_zero] at hs
    obtain ⟨h1, h2⟩ := List.getElem?_eq_some_iff.1 hs
    have h1' : needs rs < area n := by simpa [areaF] using h1
    simp only [areaF, List.getElem_map, List.getElem_range] at h2
    rw [← h2]
    exact hst _ rfl h1'
  · rw [List.length_append, List.length_drop, length_allFrom]
    omega
theorem Inv.found (h : Inv n g rs f) : foundF f n = rs := by
  unfold foundF
  rw [h.now]
  simp only [if_true]
  exact recs_of h.gl h.len h.ar (fun i hi ha => h.rest i (by omega) ha) h.fit h.r8
theorem Inv.ci (h : Inv n g rs f) : CI n g rs g f := ⟨h.gl, h.n4, h.len, h.now, h.found, h.tl, Nat.le_refl _, h.fit, h.r8⟩
theorem top_ge (now : Nat) : ∀ (l : List (List UInt8)), now ≤ top now l ∧ ∀ s ∈ l, tells s = true → gen s ≤ top now l := by
  intro l
  unfold top
  induction l generalizing now with
  | nil => simp
  | cons x l ih =>
    rw [List.foldl_cons]
    by_cases hx : tells x = true
    · simp only [hx, if_true]
      have := ih (max now (gen x))
      refine ⟨by omega, fun s hs ht => ?_⟩
      rcases List.mem_cons.1 hs with h | h
      · rw [h]; omega
      · exact this.2 s h ht
    · simp only [hx]
      have := ih now
      refine ⟨this.1, fun s hs ht => ?_⟩
      rcases List.mem_cons.1 hs with h | h
      · rw [h] at ht; exact absurd ht hx
      · exact this.2 s h ht
theorem top_le (now B : Nat) (hB : now ≤ B) : ∀ (l : List (List UInt8)), (∀ s ∈ l, tells s = true → gen s ≤ B) → top now l ≤ B := by
  intro l
  unfold top
  induction l generalizing now with
  | nil => intro _; exact hB
  | cons x l ih =>
    intro h
    rw [List.foldl_cons]
    by_cases hx : tells x = true
    · simp only [hx, if_true]
      have := h x (by simp) hx
      exact ih _ (by omega) (fun s hs => h s (by simp [hs]))
    · simp only [hx]
      exact ih _ hB (fun s hs => h s (by simp [hs]))
theorem CI.next (h : CI n g rs G f) : (∀ k, k < n → tells (f k) = true → gen (f k) < nextF f n) ∧ nextF f n ≤ G + 2 ∧ nextF f n % 2 ≠ g % 2 ∧ g < nextF f n := by
  have h1 := top_ge g (secsF f n)
  have h2 := top_le g G h.gG (secsF f n) (fun s hs ht => by
    simp only [secsF, List.mem_map, List.mem_range] at hs
    obtain ⟨k, hk, rfl⟩ := hs
    exact h.tl k hk ht)
  have h3 : ∀ k, k < n → tells (f k) = true → gen (f k) ≤ top g (secsF f n) := fun k hk ht => h1.2 _ (by simp only [secsF, List.mem_map, List.mem_range]; exact ⟨k, hk, rfl⟩) ht
  unfold nextF
  rw [h.now]
  simp only
  unfold Wl.next
  split
  · exact ⟨fun k hk ht => by have := h3 k hk ht; omega, by omega, by omega, by omega⟩
  · exact ⟨fun k hk ht => by have := h3 k hk ht; omega, by omega, by omega, by omega⟩
theorem Inv.next (h : Inv n g rs f) : nextF f n = g + 1 := by
  have h2 := top_le g g (Nat.le_refl _) (secsF f n) (fun s hs ht => by
    simp only [secsF, List.mem_map, List.mem_range] at hs
    obtain ⟨k, hk, rfl⟩ := hs
    exact h.tl k hk ht)
  have h1 := (top_ge g (secsF f n)).1
  unfold nextF
  rw [h.now]
  simp only
  unfold Wl.next
  rw [show top g (secsF f n) = g by omega, if_neg (by omega)]
end
end Wl
end Go.Proofs.Ytogkaoiiddhdbaa
