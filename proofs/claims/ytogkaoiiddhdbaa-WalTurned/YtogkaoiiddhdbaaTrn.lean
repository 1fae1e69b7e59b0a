/- A byte of a sector is turned: what is found then; the disk beside the law's own blocks. -/
import Derived.Test.YtogkaoiiddhdbaaFst
namespace Go.Proofs.Ytogkaoiiddhdbaa
open Go.RowKit

namespace Wd
theorem xor8 (a x : UInt8) : bits .xor .u8 (a.toNat : Int) (x.toNat : Int) = ((a ^^^ x).toNat : Int) := by
  rw [u8_xor_nat _ _ a.toNat_lt x.toNat_lt, UInt8.toNat_xor]
theorem turned (l : List UInt8) (k : Nat) (hk : k < l.length) (x : UInt8) : (crc (l.set k (l[k] ^^^ x)) = crc l) ↔ x = 0 := by
  have e1 : l.set k (l[k] ^^^ x) = l.take k ++ (l[k] ^^^ x) :: l.drop (k + 1) := by rw [List.set_eq_take_append_cons_drop, if_pos hk]
  have e2 : l = l.take k ++ l[k] :: l.drop (k + 1) := by
    conv => lhs; rw [← List.take_append_drop k l, List.drop_eq_getElem_cons hk]
  rw [e1]
  conv => lhs; rhs; rw [e2]
  rw [crc_turn]
  constructor
  · intro h
    have := congrArg (fun t => l[k] ^^^ t) h
    simp only [← UInt8.xor_assoc, UInt8.xor_self, UInt8.zero_xor] at this
    exact this
  · intro h
    rw [h]
    simp
end Wd
namespace Wl
open Wd (valB crc)
theorem valB_inj : ∀ (l m : List UInt8), l.length = m.length → valB l = valB m → l = m := by
  intro l
  induction l with
  | nil => intro m h _; exact (List.eq_nil_of_length_eq_zero h.symm).symm
  | cons a l ih =>
    intro m hl hv
    cases m with
    | nil => simp at hl
    | cons b m =>
      have hl' : l.length = m.length := by simpa using hl
      have e1 : valB (a :: l) = a.toNat * 256 ^ l.length + valB l := by
        have := valB_append [a] l
        simpa [Wd.valB] using this
      have e2 : valB (b :: m) = b.toNat * 256 ^ m.length + valB m := by
        have := valB_append [b] m
        simpa [Wd.valB] using this
      have b1 := Wd.valB_lt l
      have b2 := Wd.valB_lt m
      rw [e1, e2, hl'] at hv
      rw [hl'] at b1
      generalize 256 ^ m.length = P at hv b1 b2
      have hab : a.toNat = b.toNat := by
        have h1 : (a.toNat * P + valB l) / P = a.toNat := by rw [Nat.add_comm, Nat.add_mul_div_right _ _ (by omega), Nat.div_eq_of_lt b1, Nat.zero_add]
        have h2 : (b.toNat * P + valB m) / P = b.toNat := by rw [Nat.add_comm, Nat.add_mul_div_right _ _ (by omega), Nat.div_eq_of_lt b2, Nat.zero_add]
        rw [← h1, ← h2, hv]
      rw [hab] at hv
      have hvl : valB l = valB m := by omega
      rw [UInt8.toNat_inj.1 hab, ih m hl' hvl]
/-- A sector that told, with one byte turned, tells nothing. -/
theorem turned_tells {s : List UInt8} (hl : s.length = 512) (hs : valB (Wd.part s 508 4) = crc (s.take 508)) (k : Nat) (hk : k < 512) (x : UInt8) (hx : x ≠ 0) : tells (s.set k (s[k]'(by omega) ^^^ x)) = false := by
  have hne : ¬ valB (Wd.part (s.set k (s[k]'(by omega) ^^^ x)) 508 4) = crc ((s.set k (s[k]'(by omega) ^^^ x)).take 508) := fun e => by
    by_cases h : k < 508
    · have e1 : Wd.part (s.set k (s[k]'(by omega) ^^^ x)) 508 4 = Wd.part s 508 4 := by
        unfold Wd.part
        rw [List.drop_set_of_lt (by omega)]
      have e2 : (s.set k (s[k]'(by omega) ^^^ x)).take 508 = (s.take 508).set k ((s.take 508)[k]'(by rw [List.length_take]; omega) ^^^ x) := by
        rw [List.take_set, List.getElem_take]
      rw [e1, hs, e2] at e
      exact hx ((Wd.turned (s.take 508) k (by rw [List.length_take]; omega) x).1 e.symm)
    · have e1 : (s.set k (s[k]'(by omega) ^^^ x)).take 508 = s.take 508 := by rw [List.take_set_of_le (by omega)]
      rw [e1, ← hs] at e
      have e2 := valB_inj _ _ (by simp [Wd.part]) e
      have e3 := congrArg (fun l => l[k - 508]?) e2
      simp only [Wd.part] at e3
      rw [List.getElem?_take_of_lt (by omega), List.getElem?_take_of_lt (by omega), List.getElem?_drop, List.getElem?_drop, show 508 + (k - 508) = k by omega, List.getElem?_set_self (by omega), List.getElem?_eq_getElem (by omega)] at e3
      injection e3 with e3
      have e4 := congrArg (fun t => (s[k]'(by omega)) ^^^ t) e3
      simp only [← UInt8.xor_assoc, UInt8.xor_self, UInt8.zero_xor] at e4
      exact hx e4
  unfold tells
  rw [decide_eq_false hne, Bool.and_false]
theorem all_take (g : Nat) (rs : List (List UInt8)) (w : Nat) : ∀ i, i < needs (rs.take w) → (all g rs).getD i [] = (all g (rs.take w)).getD i [] := fun i hi => by
  have e : all g rs = all g (rs.take w) ++ allFrom g (0 + (rs.take w).length) (rs.drop w) := by
    unfold all
    rw [← allFrom_append, List.take_append_drop]
  rw [e, List.getD_eq_getElem?_getD, List.getD_eq_getElem?_getD, List.getElem?_append_left (by unfold all; rw [length_allFrom]; exact hi)]
theorem all_at (g : Nat) (rs : List (List UInt8)) (w : Nat) (h : w < rs.length) : (all g rs).getD (needs (rs.take w)) [] = piece g w 0 rs[w] := by
  have e : all g rs = all g (rs.take w) ++ allFrom g w (rs.drop w) := by
    have : allFrom g 0 (rs.take w ++ rs.drop w) = allFrom g 0 (rs.take w) ++ allFrom g (0 + (rs.take w).length) (rs.drop w) := allFrom_append g _ _ 0
    rw [List.take_append_drop, List.length_take, Nat.min_eq_left (by omega), Nat.zero_add] at this
    exact this
  obtain ⟨l, hp⟩ := pieces_cons g w rs[w]
  rw [e, List.getD_eq_getElem?_getD, List.getElem?_append_right (by unfold all; rw [length_allFrom]; exact Nat.le_refl _)]
  have hz : needs (rs.take w) - (all g (rs.take w)).length = 0 := by unfold all; rw [length_allFrom]; omega
  rw [hz, List.drop_eq_getElem_cons h, allFrom, hp]
  rfl
/-- A log of whose record w the first piece has one byte turned. -/
theorem Inv.turned {n g : Nat} {rs : List (List UInt8)} {f : Nat → List UInt8} (h : Inv n g rs f) (w : Nat) (hw : w < rs.length) (k : Nat) (hk : k < 512) (x : UInt8) (hx : x ≠ 0) (s : List UInt8) (hs : s = f (first n g + needs (rs.take w))) (hl : s.length = 512) :
    CI n g (rs.take w) g (over f (first n g + needs (rs.take w)) [s.set k (s[k]'(by omega) ^^^ x)]) := by
  have hnd : needs (rs.take w) < needs rs := by
    have h1 := needs_append (rs.take w) (rs.drop w)
    rw [List.take_append_drop] at h1
    have h2 : 0 < needs (rs.drop w) := by
      have := length_le_needs (rs.drop w)
      rw [List.length_drop] at this
      omega
    omega
  have hfl := first_le n g h.n4
  have hfit := h.fit
  have hsp : s = piece g w 0 rs[w] := by rw [hs, h.ar _ hnd]; exact all_at g rs w hw
  have hsum : valB (Wd.part s 508 4) = crc (s.take 508) := by rw [hsp]; exact seal_sum (piece_len g w 0 rs[w])
  have hnt := turned_tells hl hsum k hk x hx
  have hst : ∀ j, over f (first n g + needs (rs.take w)) [s.set k (s[k]'(by omega) ^^^ x)] j = f j ∨ j = first n g + needs (rs.take w) ∧ over f (first n g + needs (rs.take w)) [s.set k (s[k]'(by omega) ^^^ x)] j = s.set k (s[k]'(by omega) ^^^ x) := fun j => by
    by_cases hj : j = first n g + needs (rs.take w)
    · right
      refine ⟨hj, ?_⟩
      unfold over
      rw [if_pos (by simp; omega), hj, Nat.sub_self]
      rfl
    · left
      exact over_out (by simp; omega)
  have hlow : ∀ j, j < first n g + needs (rs.take w) → over f (first n g + needs (rs.take w)) [s.set k (s[k]'(by omega) ^^^ x)] j = f j := fun j hj => over_out (by simp; omega)
  have hnow : nowF (over f (first n g + needs (rs.take w)) [s.set k (s[k]'(by omega) ^^^ x)]) = (g, true) := by
    unfold nowF
    rw [hlow 0 (by omega), hlow 1 (by omega)]
    exact h.now
  have hlen : ∀ j, (over f (first n g + needs (rs.take w)) [s.set k (s[k]'(by omega) ^^^ x)] j).length = 512 := fun j => by
    rcases hst j with q | ⟨_, q⟩
    · rw [q]; exact h.len j
    · rw [q, List.length_set]; exact hl
  refine ⟨h.gl, h.n4, hlen, hnow, ?_, fun j hj ht => ?_, Nat.le_refl _, by omega, fun r hr => h.r8 r (List.mem_of_mem_take hr)⟩
  · unfold foundF
    rw [hnow]
    simp only [if_true]
    refine recs_of h.gl hlen (fun i hi => ?_) (fun i hi ha => ?_) (by omega) (fun r hr => h.r8 r (List.mem_of_mem_take hr))
    · rw [hlow _ (by omega), h.ar i (by omega)]
      exact all_take g rs w i hi
    · rw [hi]
      rcases hst (first n g + needs (rs.take w)) with q | ⟨_, q⟩
      · intro ht
        exfalso
        unfold over at q
        rw [if_pos (by simp), Nat.sub_self] at q
        have q' : s.set k (s[k]'(by omega) ^^^ x) = f (first n g + needs (rs.take w)) := q
        rw [← hs] at q'
        have t1 := piece_tells g w 0 rs[w]
        rw [← hsp, ← q', hnt] at t1
        cases t1
      · rw [q]
        intro ht
        rw [hnt] at ht
        cases ht
  · rcases hst j with q | ⟨_, q⟩
    · rw [q] at ht ⊢; exact h.tl j hj ht
    · rw [q, hnt] at ht; cases ht
/-- One sector written and flushed, with the power on. -/
theorem write_calm {s : Dk.S} {f : Nat → List UInt8} (hF : Flat s f) (hd : s.down = false) (hf : s.fused = false) (i : Nat) (b : List UInt8) (hb : b.length = 512) (hn : (i : Int) < s.n) :
    s.wcode (i : Int) 512 = 0 ∧ (s.write (i : Int) b).fcode = 0 ∧ Flat (s.write (i : Int) b).flush (over f i [b]) ∧ (s.write (i : Int) b).flush.down = false ∧ (s.write (i : Int) b).flush.fused = false := by
  obtain ⟨hr, _⟩ := layAll_run [b] s i hd (fun x hx => by simp at hx; rw [hx]; exact hb) (by simp; omega)
  obtain ⟨c1, c2, c3, c4⟩ := lay_calm hF hd hf i [b] (fun x hx => by simp at hx; rw [hx]; exact hb) (by simp; omega)
  have hw : s.wcode (i : Int) b.length = 0 := by
    rcases hr with ⟨h1, _⟩ | ⟨_, h2, _⟩
    · by_cases hz : s.wcode (i : Int) b.length = 0
      · exact hz
      · rw [layAll_cons_no hz] at h1
        exact h1
    · rw [hf] at h2; cases h2
  have hla : layAll s i [b] = (s.write (i : Int) b, 0) := by rw [layAll_cons_ok hw]; rfl
  have hl : lay s i [b] = ((s.write (i : Int) b).flush, (s.write (i : Int) b).fcode) := by
    unfold lay
    rw [hla]
    rfl
  rw [hl] at c1 c2 c3 c4
  rw [hb] at hw
  exact ⟨hw, c1, c4, c2, c3⟩
end Wl
section
variable {w0 w : World} {X : Nat → Prop} {p : Nat} {s : Dk.S}
theorem write_beside {A : Option Addr} {l : List UInt8} {c n : Nat} (i : Int) (h : Dk.Live w0 X w p s) (hB : Dk.Bts w (fun k => k < w0.heap.size ∨ X k) A l) (hn : n = l.length) (hw : s.wait.length < 100000) (hl : 0 ≤ s.left) (hl2 : s.left ≤ 9223372036854775807) :
    Calls Try.prog 29 #[.pointer (some ⟨p, 0, none⟩), .int .i64 i, .slice A n c] w fun e w' => e = .returned (.int .i64 (s.wcode i l.length)) ∧ Hid (Dk.Live w0 X w' p (s.write i l)) ∧ Hid (Dk.Same X w w') := by
  subst hn
  obtain ⟨F, hD, hF, hbw, hX⟩ := id h
  refine (write_any w p F s i A l c _ hD hB (fun k hk hf => by
    have := hF k hf
    rcases hk with hk | hk
    · omega
    · exact this.2 hk) hw hl hl2).mono fun e w' ⟨he, HG⟩ => ⟨he, ?_⟩
  obtain ⟨F', hD', hfr, hF'⟩ := HG.out
  refine ⟨⟨F', hD', fun k hk => ?_, hbw.trans (hfr.below hbw.size (fun k hk => (hF k hk).1)), fun k hk => Nat.lt_of_lt_of_le (hX k hk) hfr.size⟩, fun k hk => hfr.block k (hX k hk) (fun hf => (hF k hf).2 hk)⟩
  rcases hF' k hk with h1 | h1
  · exact hF k h1
  · exact ⟨Nat.le_trans hbw.size h1, fun hx => by have := hX k hx; omega⟩
end
end Go.Proofs.Ytogkaoiiddhdbaa
