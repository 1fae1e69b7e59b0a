/- The disk as sectors: what laying does to them, with the power on, and where it goes off. No Go text is spoken of here. -/
import Derived.Test.YtogkaoiiddhdbaaWrt
namespace Go.Proofs.Ytogkaoiiddhdbaa

namespace Wl
/-- The writes of sectors one behind the other. -/
def wrs (a : Nat) : List (List UInt8) → List (Int × List UInt8)
  | [] => []
  | b :: r => ((a : Int), b) :: wrs (a + 1) r
theorem length_wrs : ∀ (l : List (List UInt8)) (a : Nat), (wrs a l).length = l.length
  | [], _ => rfl
  | b :: r, a => by simp [wrs, length_wrs r]
/-- Sectors with others laid over them. -/
def over (f : Nat → List UInt8) (a : Nat) (l : List (List UInt8)) : Nat → List UInt8 := fun k => if a ≤ k ∧ k < a + l.length then l.getD (k - a) [] else f k
/-- Some of them laid over. -/
def Mix (f : Nat → List UInt8) (a : Nat) (l : List (List UInt8)) (f' : Nat → List UInt8) : Prop := ∀ k, f' k = f k ∨ (a ≤ k ∧ k < a + l.length ∧ f' k = l.getD (k - a) [])
/-- Nothing waits; the sectors are f. -/
def Flat (s : Dk.S) (f : Nat → List UInt8) : Prop := s.wait = [] ∧ ∀ k : Nat, s.get (k : Int) = f k
theorem lastFrom_wrs : ∀ (l : List (List UInt8)) (a k : Nat) (acc : Option (List UInt8)), Dk.lastFrom (k : Int) (wrs a l) acc = if a ≤ k ∧ k < a + l.length then some (l.getD (k - a) []) else acc
  | [], a, k, acc => by simp [wrs, Dk.lastFrom]; intro h1 h2; omega
  | b :: r, a, k, acc => by
    rw [wrs, Dk.lastFrom, lastFrom_wrs r]
    by_cases h : a = k
    · subst h
      rw [if_neg (by omega), if_pos rfl, if_pos (by simp)]
      simp
    · have h1 : ¬ ((a : Int) = (k : Int)) := by omega
      rw [if_neg h1]
      by_cases h2 : a ≤ k ∧ k < a + (b :: r).length
      · rw [if_pos h2, if_pos (by simp at h2; omega)]
        rw [show k - a = (k - (a + 1)) + 1 by omega]
        rfl
      · rw [if_neg h2, if_neg (by simp at h2; omega)]
theorem get_wrs (s : Dk.S) (f : Nat → List UInt8) (a : Nat) (l : List (List UInt8)) (hs : ∀ k : Nat, (s.safe (k : Int)).getD Dk.zeros = f k) (k : Nat) : (Dk.doneOver s.safe (wrs a l) (k : Int)).getD Dk.zeros = over f a l k := by
  unfold Dk.doneOver over
  rw [lastFrom_wrs]
  split
  · rfl
  · exact hs k
theorem Flat.safe {s : Dk.S} {f : Nat → List UInt8} (h : Flat s f) (k : Nat) : (s.safe (k : Int)).getD Dk.zeros = f k := by
  have := h.2 k
  unfold Dk.S.get at this
  rw [h.1] at this
  exact this
theorem flat_of {s : Dk.S} {f : Nat → List UInt8} (hw : s.wait = []) (hs : ∀ k : Nat, (s.safe (k : Int)).getD Dk.zeros = f k) : Flat s f := ⟨hw, fun k => by
  unfold Dk.S.get
  rw [hw]
  exact hs k⟩
/-- Writes, one by one, as far as they go. -/
theorem layAll_run : ∀ (l : List (List UInt8)) (s : Dk.S) (a : Nat), s.down = false → (∀ b ∈ l, b.length = 512) → (a : Int) + l.length ≤ s.n →
    ((layAll s a l).2 = 0 ∧ (layAll s a l).1.down = false ∧ (layAll s a l).1.wait = s.wait ++ wrs a l ∧ (layAll s a l).1.safe = s.safe ∧ (layAll s a l).1.fused = s.fused ∨
     (layAll s a l).2 = 3 ∧ s.fused = true ∧ (layAll s a l).1.down = true ∧ (layAll s a l).1.safe = s.safe ∧ ∃ m, (layAll s a l).1.wait = s.wait ++ wrs a (l.take m)) ∧ (s.fused = false → (layAll s a l).1.left = s.left)
  | [], s, a, hd, _, _ => by simp [layAll, wrs, hd]
  | b :: r, s, a, hd, hl, hn => by
    have hb := hl b (by simp)
    have hhas : s.has (a : Int) = true := by
      unfold Dk.S.has
      simp only [Bool.and_eq_true, decide_eq_true_eq]
      simp at hn
      omega
    have hw : s.write (a : Int) b = s.burn.put (a : Int) b := by
      unfold Dk.S.write
      rw [if_neg (by simp [hhas]), if_neg (by omega), if_neg (by simp [hd])]
    have hsafe : s.burn.safe = s.safe := by unfold Dk.S.burn; split <;> (try split) <;> rfl
    by_cases hbd : s.burn.down = true
    · have hc : s.wcode (a : Int) b.length = 3 := by
        unfold Dk.S.wcode
        rw [if_neg (by simp [hhas]), if_neg (by omega), if_neg (by simp [hd]), if_pos hbd]
      rw [layAll_cons_no (by omega), hw, hc]
      refine ⟨.inr ⟨rfl, ?_, hbd, hsafe, 1, ?_⟩, fun hf => ?_⟩
      · unfold Dk.S.burn at hbd
        by_cases hf : s.fused = false
        · rw [if_pos hf, hd] at hbd; cases hbd
        · simpa using hf
      · simp [Dk.S.put, Dk.burn_wait, wrs]
      · unfold Dk.S.burn at hbd
        rw [if_pos hf, hd] at hbd
        cases hbd
    · have hbd' : s.burn.down = false := by simpa using hbd
      have hc : s.wcode (a : Int) b.length = 0 := by
        unfold Dk.S.wcode
        rw [if_neg (by simp [hhas]), if_neg (by omega), if_neg (by simp [hd]), if_neg hbd]
      rw [layAll_cons_ok hc, hw]
      have hfz : s.burn.fused = s.fused := by unfold Dk.S.burn; split <;> (try split) <;> rfl
      obtain ⟨ih, ihl⟩ := layAll_run r (s.burn.put (a : Int) b) (a + 1) hbd' (fun x hx => hl x (by simp [hx])) (by
        show ((a + 1 : Nat) : Int) + r.length ≤ s.burn.n
        rw [Dk.burn_n]
        simp at hn
        omega)
      have e1 : (s.burn.put (a : Int) b).wait = s.wait ++ [((a : Int), b)] := by simp [Dk.S.put, Dk.burn_wait]
      have e2 : (s.burn.put (a : Int) b).safe = s.safe := hsafe
      have e3 : (s.burn.put (a : Int) b).fused = s.fused := hfz
      rw [e1, e2, e3] at ih
      refine ⟨?_, fun hf => ?_⟩
      · rcases ih with ⟨h1, h2, h3, h4, h5⟩ | ⟨h1, h2, h3, h4, m, h5⟩
        · exact .inl ⟨h1, h2, by rw [h3]; simp [wrs], h4, h5⟩
        · exact .inr ⟨h1, h2, h3, h4, m + 1, by rw [h5]; simp [wrs]⟩
      · rw [ihl (by rw [e3]; exact hf)]
        show s.burn.left = s.left
        unfold Dk.S.burn
        rw [if_pos hf]
theorem kept_mem : ∀ (l : List (Int × List UInt8)) (m : List Bool), ∀ x ∈ Dk.kept l m, x ∈ l
  | [], m, x, h => by cases m <;> simp [Dk.kept] at h
  | y :: r, [], x, h => by simp [Dk.kept] at h
  | y :: r, b :: m, x, h => by
    unfold Dk.kept at h
    split at h
    · rcases List.mem_cons.1 h with h | h
      · rw [h]; simp
      · exact List.mem_cons_of_mem _ (kept_mem r m x h)
    · exact List.mem_cons_of_mem _ (kept_mem r m x h)
theorem mem_wrs : ∀ (l : List (List UInt8)) (a : Nat) (x : Int × List UInt8), x ∈ wrs a l → ∃ i, i < l.length ∧ x = (((a + i : Nat) : Int), l.getD i [])
  | [], a, x, h => by simp [wrs] at h
  | b :: r, a, x, h => by
    rcases List.mem_cons.1 h with h | h
    · exact ⟨0, by simp, by rw [h]; simp⟩
    · obtain ⟨i, hi, e⟩ := mem_wrs r (a + 1) x h
      exact ⟨i + 1, by simp; omega, by rw [e, show a + 1 + i = a + (i + 1) by omega]; rfl⟩
theorem lastFrom_mem : ∀ (l : List (Int × List UInt8)) (k : Int) (acc : Option (List UInt8)), Dk.lastFrom k l acc = acc ∨ ∃ b, (k, b) ∈ l ∧ Dk.lastFrom k l acc = some b
  | [], _, _ => .inl rfl
  | x :: r, k, acc => by
    rw [Dk.lastFrom]
    by_cases h : x.1 = k
    · rw [if_pos h]
      rcases lastFrom_mem r k (some x.2) with h1 | ⟨b, h1, h2⟩
      · exact .inr ⟨x.2, by rw [← h]; simp, h1⟩
      · exact .inr ⟨b, List.mem_cons_of_mem _ h1, h2⟩
    · rw [if_neg h]
      rcases lastFrom_mem r k acc with h1 | ⟨b, h1, h2⟩
      · exact .inl h1
      · exact .inr ⟨b, List.mem_cons_of_mem _ h1, h2⟩
/-- Behind a crash some of the writes that waited are there. -/
theorem crash_mix {s s' : Dk.S} {f : Nat → List UInt8} {a : Nat} {l l' : List (List UInt8)} (h : Flat s f) (hsafe : s'.safe = s.safe) (hw : s'.wait = wrs a l') (hp : ∃ m, l' = l.take m) (keep : List Bool) : ∃ f', Flat (s'.restart keep) f' ∧ Mix f a l f' := by
  refine ⟨fun k => (s'.restart keep).get (k : Int), ⟨rfl, fun _ => rfl⟩, fun k => ?_⟩
  obtain ⟨m, rfl⟩ := hp
  have e : (s'.restart keep).get (k : Int) = (Dk.lastFrom (k : Int) (Dk.kept s'.wait keep) (s.safe (k : Int))).getD Dk.zeros := by
    show (match Dk.lastW [] (k : Int) with | some b => b | none => (Dk.doneOver s'.safe (Dk.kept s'.wait keep) (k : Int)).getD Dk.zeros) = _
    rw [hsafe]
    rfl
  show (s'.restart keep).get (k : Int) = f k ∨ a ≤ k ∧ k < a + l.length ∧ (s'.restart keep).get (k : Int) = l.getD (k - a) []
  rw [e]
  rcases lastFrom_mem (Dk.kept s'.wait keep) (k : Int) (s.safe (k : Int)) with h1 | ⟨b, h1, h2⟩
  · left
    rw [h1]
    exact h.safe k
  · right
    have h3 := kept_mem _ _ _ h1
    rw [hw] at h3
    obtain ⟨i, hi, e⟩ := mem_wrs _ _ _ h3
    injection e with e1 e2
    have hk : k = a + i := by omega
    subst hk
    rw [List.length_take] at hi
    refine ⟨by omega, by omega, ?_⟩
    rw [h2, e2]
    simp only [Option.getD_some, Nat.add_sub_cancel_left]
    rw [List.getD_eq_getElem?_getD, List.getD_eq_getElem?_getD, List.getElem?_take_of_lt (by omega)]
/-- What lay comes to. -/
theorem lay_run {s : Dk.S} {f : Nat → List UInt8} (h : Flat s f) (hd : s.down = false) (a : Nat) (l : List (List UInt8)) (hl : ∀ b ∈ l, b.length = 512) (hn : (a : Int) + l.length ≤ s.n) :
    ((lay s a l).2 = 0 ∧ (lay s a l).1.down = false ∧ (lay s a l).1.fused = s.fused ∧ Flat (lay s a l).1 (over f a l)) ∨
    ((lay s a l).2 = 3 ∧ s.fused = true ∧ ∀ keep, ∃ f', Flat ((lay s a l).1.restart keep) f' ∧ Mix f a l f') := by
  obtain ⟨hr, _⟩ := layAll_run l s a hd hl hn
  rw [h.1] at hr
  unfold lay
  rcases hr with ⟨h1, h2, h3, h4, h5⟩ | ⟨h1, h2, h3, h4, m, h5⟩
  · rw [if_pos h1]
    simp only
    by_cases hb : (layAll s a l).1.burn.down = true
    · right
      have hc : (layAll s a l).1.fcode = 3 := by unfold Dk.S.fcode; rw [if_neg (by simp [h2]), if_pos hb]
      have hf : (layAll s a l).1.flush = (layAll s a l).1.burn := by unfold Dk.S.flush; rw [if_neg (by simp [h2]), if_pos hb]
      refine ⟨hc, ?_, fun keep => ?_⟩
      · unfold Dk.S.burn at hb
        by_cases hf : (layAll s a l).1.fused = false
        · rw [if_pos hf, h2] at hb; cases hb
        · rw [h5] at hf; simpa using hf
      · rw [hf]
        refine crash_mix (l' := l) h ?_ ?_ ⟨l.length, by simp⟩ keep
        · rw [← h4]; unfold Dk.S.burn; split <;> (try split) <;> rfl
        · rw [Dk.burn_wait, h3]; rfl
    · left
      have hb' : (layAll s a l).1.burn.down = false := by simpa using hb
      have hc : (layAll s a l).1.fcode = 0 := by unfold Dk.S.fcode; rw [if_neg (by simp [h2]), if_neg hb]
      have hf : (layAll s a l).1.flush = (layAll s a l).1.burn.done := by unfold Dk.S.flush; rw [if_neg (by simp [h2]), if_neg hb]
      refine ⟨hc, by rw [hf]; exact hb', ?_, ?_⟩
      · rw [hf]
        show (layAll s a l).1.burn.fused = _
        rw [← h5]
        unfold Dk.S.burn; split <;> (try split) <;> rfl
      · rw [hf]
        refine flat_of rfl (fun k => ?_)
        show (Dk.doneOver (layAll s a l).1.burn.safe (layAll s a l).1.burn.wait (k : Int)).getD Dk.zeros = _
        have e1 : (layAll s a l).1.burn.safe = s.safe := by rw [← h4]; unfold Dk.S.burn; split <;> (try split) <;> rfl
        rw [e1, Dk.burn_wait, h3]
        exact get_wrs s f a l h.safe k
  · right
    rw [if_neg (by omega)]
    refine ⟨h1, h2, fun keep => crash_mix h h4 h5 ⟨m, rfl⟩ keep⟩
/-- An error of lay: the power is off. -/
theorem lay_down {s : Dk.S} {a : Nat} {l : List (List UInt8)} (h : ¬ (lay s a l).2 = 0) (hd : s.down = false) (hl : ∀ b ∈ l, b.length = 512) (hn : (a : Int) + l.length ≤ s.n) : (lay s a l).1.down = true := by
  obtain ⟨hr, _⟩ := layAll_run l s a hd hl hn
  unfold lay at h ⊢
  rcases hr with ⟨h1, h2, _⟩ | ⟨h1, _, h3, _⟩
  · rw [if_pos h1] at h ⊢
    simp only at h ⊢
    unfold Dk.S.fcode at h
    unfold Dk.S.flush
    rw [if_neg (by simp [h2])] at h ⊢
    by_cases hb : (layAll s a l).1.burn.down = true
    · rw [if_pos hb]; exact hb
    · rw [if_neg hb] at h; exact absurd rfl h
  · rw [if_neg (by omega)]
    exact h3
theorem lay_calm {s : Dk.S} {f : Nat → List UInt8} (h : Flat s f) (hd : s.down = false) (hf : s.fused = false) (a : Nat) (l : List (List UInt8)) (hl : ∀ b ∈ l, b.length = 512) (hn : (a : Int) + l.length ≤ s.n) :
    (lay s a l).2 = 0 ∧ (lay s a l).1.down = false ∧ (lay s a l).1.fused = false ∧ Flat (lay s a l).1 (over f a l) := by
  rcases lay_run h hd a l hl hn with ⟨h1, h2, h3, h4⟩ | ⟨_, h2, _⟩
  · exact ⟨h1, h2, by rw [h3]; exact hf, h4⟩
  · rw [hf] at h2; cases h2
end Wl
end Go.Proofs.Ytogkaoiiddhdbaa
