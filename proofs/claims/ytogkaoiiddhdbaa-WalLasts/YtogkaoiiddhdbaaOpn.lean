/- Contract of Open. -/
import Derived.Test.YtogkaoiiddhdbaaBeg
namespace Go.Proofs.Ytogkaoiiddhdbaa
open Go.RowKit

namespace Wl
theorem recsOf_facts : ∀ (f : Nat) (secs : List (List UInt8)) (g num : Nat), (∀ s ∈ secs, s.length = 512) → needs (recsOf f secs g num) ≤ secs.length ∧ ∀ r ∈ recsOf f secs g num, r.length ≤ 8192
  | 0, secs, g, num, _ => ⟨Nat.zero_le _, by intro r h; cases h⟩
  | f + 1, secs, g, num, hl => by
    unfold recsOf
    cases hfr : firstRec secs g num with
    | none => exact ⟨Nat.zero_le _, by intro r h; cases h⟩
    | some r =>
      obtain ⟨_, h2, h3, _⟩ := firstRec_some hl hfr
      have := recsOf_facts f (secs.drop (need r.length)) g (num + 1) (fun s hs => hl s (List.mem_of_mem_drop hs))
      simp only
      rw [needs_cons]
      rw [List.length_drop] at this
      refine ⟨by omega, fun x hx => ?_⟩
      rcases List.mem_cons.1 hx with h | h
      · rw [h]; exact h2
      · exact this.2 x h
theorem curTo_secs (s : Dk.S) (h : 2 ≤ s.n.toNat) : curTo (secs s) 2 = now s := by
  rw [curTo_two]
  have e0 : (secs s).getD 0 [] = s.get 0 := by
    rw [List.getD_eq_getElem?_getD, List.getElem?_eq_getElem (by rw [length_secs]; omega), get_secs s 0 (by omega)]
    rfl
  have e1 : (secs s).getD 1 [] = s.get 1 := by
    rw [List.getD_eq_getElem?_getD, List.getElem?_eq_getElem (by rw [length_secs]; omega), get_secs s 1 (by omega)]
    rfl
  rw [e0, e1]
  rfl
theorem found_secs (s : Dk.S) (h : 2 ≤ s.n.toNat) : foundIn (secs s) = found s := by
  unfold foundIn found
  rw [curTo_secs s h, length_secs]
theorem found_facts (s : Dk.S) (hl : ∀ k, (s.get k).length = 512) : needs (found s) ≤ area s.n.toNat ∧ ∀ r ∈ found s, r.length ≤ 8192 := by
  unfold found
  split
  · unfold recs
    have := recsOf_facts (((secs s).drop (first s.n.toNat (now s).1)).take (area s.n.toNat)).length (((secs s).drop (first s.n.toNat (now s).1)).take (area s.n.toNat)) (now s).1 0 (fun x hx => by
      have hx := List.mem_of_mem_drop (List.mem_of_mem_take hx)
      simp only [secs, List.mem_map] at hx
      obtain ⟨i, _, rfl⟩ := hx
      exact hl _)
    refine ⟨Nat.le_trans this.1 ?_, this.2⟩
    rw [List.length_take]
    omega
  · exact ⟨Nat.zero_le _, by intro r h; cases h⟩
theorem now_lt (s : Dk.S) (h : 2 ≤ s.n.toNat) : (now s).1 < 4294967296 := by rw [← curTo_secs s h]; exact curTo_lt _ 2
theorem begin_d (t : L) (g : Nat) (l : List (List UInt8)) : (t.begin g l).d = (begin_ t.d g l).1 := by
  unfold L.begin
  by_cases h : (begin_ t.d g l).2 = 0 <;> simp [h]
/-- The log is open, at q. -/
def OpenAt (w : World) (p : Nat) (FD : Nat → Prop) (t : L) (q : Nat) (w' : World) : Prop := ∃ FD' R' v', LgAt w' q p FD' R' v' t ∧ Dk.Fr FD w w' ∧ (∀ k, FD' k → FD k ∨ w.heap.size ≤ k) ∧ (∀ k, R' k → w.heap.size ≤ k) ∧ w.heap.size ≤ q
def Opens (w : World) (p : Nat) (FD : Nat → Prop) (t : L) (e : Ending) (w' : World) : Prop := ∃ q, e = .returned (.tuple #[.pointer (some ⟨q, 0, none⟩), .int .i64 0]) ∧ Hid (OpenAt w p FD t q w')
end Wl

theorem open_range (w : World) (p : Nat) (FD : Nat → Prop) (s : Dk.S) (h : Dk.Dsk w p FD s) (hn : s.n < 4) :
    Calls Try.prog 38 #[.pointer (some ⟨p, 0, none⟩)] w fun e w' => e = .returned (.tuple #[.pointer none, .int .i64 1]) ∧ w = w' := by
  have HSZ : Hid (Calls Try.prog 48 #[.pointer (some ⟨p, 0, none⟩)] w fun e w' => e = .returned (.int .i64 s.n) ∧ w = w') := by
    obtain ⟨a, c, v, hA, _⟩ := h
    exact size_any w p a c v s hA
  clear h
  go_enter Try.func38, Try.ntmps38
  go_wp2_with (go_at_call 48; refine HSZ.out.mono ?_; rintro e w1 ⟨rfl, rfl⟩)
  go_ret2
  exact ⟨rfl, rfl⟩
theorem open_down (w : World) (p : Nat) (FD : Nat → Prop) (s : Dk.S) (h : Dk.Dsk w p FD s) (hn : 4 ≤ s.n) (hn1 : s.n ≤ 4096) (hd : s.down = true) :
    Calls Try.prog 38 #[.pointer (some ⟨p, 0, none⟩)] w fun e w' => e = .returned (.tuple #[.pointer none, .int .i64 3]) ∧ w = w' := by
  have HSZ : Hid (Calls Try.prog 48 #[.pointer (some ⟨p, 0, none⟩)] w fun e w' => e = .returned (.int .i64 s.n) ∧ w = w') := by
    obtain ⟨a, c, v, hA, _⟩ := h
    exact size_any w p a c v s hA
  have HRA := Lib.hid (readAll_no w p FD s h hd (by omega) hn1)
  have hn2 : ¬ s.n < 4 := by omega
  clear h hd
  go_enter Try.func38, Try.ntmps38
  go_wp2_with (first
    | (go_at_call 48; refine HSZ.out.mono ?_; rintro e w1 ⟨rfl, rfl⟩)
    | (go_at_call 69; refine HRA.out.mono ?_; rintro e w1 ⟨rfl, rfl⟩))
  go_ret2
  exact ⟨rfl, rfl⟩
set_option maxHeartbeats 1000000 in
theorem open_core (w : World) (p : Nat) (FD : Nat → Prop) (s : Dk.S) (h : Dk.Dsk w p FD s) (hok : Dk.Ok s 50000) (hd : s.down = false) :
    Calls Try.prog 38 #[.pointer (some ⟨p, 0, none⟩)] w fun e w' =>
      (4294967295 < Wl.nextOf s → e = .returned (.tuple #[.pointer none, .int .i64 11]) ∧ Hid (Below w.heap.size w w')) ∧
      (¬ 4294967295 < Wl.nextOf s → (Wl.begin_ s (Wl.nextOf s) (Wl.found s)).2 ≠ 0 → e = .returned (.tuple #[.pointer none, .int .i64 (Wl.begin_ s (Wl.nextOf s) (Wl.found s)).2]) ∧ Hid (Dk.Gone w FD w' p (Wl.begin_ s (Wl.nextOf s) (Wl.found s)).1)) ∧
      (¬ 4294967295 < Wl.nextOf s → (Wl.begin_ s (Wl.nextOf s) (Wl.found s)).2 = 0 → Wl.Opens w p FD (Wl.opened s) e w') := by
  have HH := Lib.hid h
  obtain ⟨o0, o1, o2, o3, o4⟩ := id hok
  have HSZ : Hid (Calls Try.prog 48 #[.pointer (some ⟨p, 0, none⟩)] w fun e w' => e = .returned (.int .i64 s.n) ∧ w = w') := by
    obtain ⟨a, c, v, hA, _⟩ := h
    exact size_any w p a c v s hA
  have HRA := Lib.hid (readAll_yes w p FD s h hd (by omega) o1)
  have hn2 : ¬ s.n < 4 := by omega
  have hlen : ∀ k, (s.get k).length = 512 := fun k => Dk.get_len h k
  obtain ⟨ff1, ff2⟩ := Wl.found_facts s hlen
  have har : Wl.area s.n.toNat ≤ 4096 := by unfold Wl.area; omega
  have h2n : 2 ≤ s.n.toNat := by omega
  have HCU := Lib.hid (Wl.curTo_secs s h2n)
  have HFO := Lib.hid (Wl.found_secs s h2n)
  have hnow := Wl.now_lt s h2n
  have HLS : Hid (∀ x ∈ Wl.secs s, x.length = 512) := fun x hx => by
    simp only [Wl.secs, List.mem_map] at hx
    obtain ⟨i, _, rfl⟩ := hx
    exact hlen _
  have HSL := Lib.hid (Wl.length_secs s)
  have hNX : Wl.next (Wl.secs s) (Wl.now s).1 = Wl.nextOf s := rfl
  have HNX := Lib.hid hNX
  have HCR : Hid (∀ w1 A c, Wl.Rws w1 w.heap.size (.slice A (Wl.secs s).length c) (Wl.secs s) → Calls Try.prog 70 #[.slice A (Wl.secs s).length c] w1 fun e w' => Wl.NewC w1 (Wl.now s).1 (Wl.found s) e w') := fun w1 A c hr => by
    have := current_any w1 A c (Wl.secs s) _ hr.prts (by rw [HSL.out]; omega) (by rw [HSL.out]; omega) HLS.out (by
      obtain ⟨xs, G, g1, g2, _⟩ := hr
      rcases g1.2 with ⟨g3, g4⟩ | ⟨gg, cap, cur, g3, _, _, g4, _⟩
      · injection g3 with _ g3 _; omega
      · injection g3 with _ g5 g6
        omega)
    rw [HCU.out, HFO.out] at this
    exact this
  have HNE : Hid (∀ w1 A c w2, Wl.Rws w1 w.heap.size (.slice A (Wl.secs s).length c) (Wl.secs s) → Below w1.heap.size w1 w2 → Calls Try.prog 71 #[.slice A (Wl.secs s).length c, .int .u32 ((Wl.now s).1 : Int)] w2 fun e w' => e = .returned (.int .u64 (Wl.nextOf s : Int)) ∧ Below w2.heap.size w2 w') := fun w1 A c w2 hr hb => by
    have := next_any w2 A (Wl.secs s) c (Wl.now s).1 _ (hr.below hb).prts (by rw [HSL.out]; omega) (fun j hj => HLS.out _ (List.getElem_mem hj)) hnow
    rw [HNX.out] at this
    exact this
  have HBG : Hid (∀ w1 q R2 A c, Wl.LgAt w1 q p FD (fun _ => False) (.slice none 0 0) (Wl.opening s) → Wl.RwsR w1 R2 (.slice A (Wl.found s).length c) (Wl.found s) → ¬ R2 q → (∀ k, FD k → ¬ R2 k) → (∀ k, R2 k → k < w1.heap.size) → Wl.nextOf s < 4294967296 →
      Calls Try.prog 56 #[.pointer (some ⟨q, 0, none⟩), .int .u32 (Wl.nextOf s : Int), .slice A (Wl.found s).length c] w1 fun e w' => e = .returned (.int .i64 (Wl.begin_ s (Wl.nextOf s) (Wl.found s)).2) ∧ Hid (Wl.Begun w1 q p FD (fun _ => False) R2 (Wl.opened s) w')) := fun w1 q R2 A c hl hr h1 h2 h3 h4 =>
    begin_any w1 q p FD (fun _ => False) R2 _ (Wl.opening s) (Wl.nextOf s) A c (Wl.found s) hl hr h1 h2 (fun _ h => h.elim) h3 h4 hok (by omega) ff2
  have hdd : ∀ w2, Below w.heap.size w w2 → Wl.LgAt (w2.alloc (.cells #[.pointer (some ⟨p, 0, none⟩), .int .u32 0, .slice none 0 0, .int .i64 0, .bool false] 95)) w2.heap.size p FD (fun _ => False) (.slice none 0 0) (Wl.opening s) := fun w2 hb => by
    have hlt := h.lt
    have hs := hb.size
    refine ⟨heap_alloc_new w2 _, ?_, Wl.RwsR.nil _ _, fun hf => by have := hlt _ hf; omega, fun h => h, fun _ _ h => h, fun _ h => h.elim⟩
    exact (h.kept (fun k hk => hb.block k (hlt k hk))).alloc _
  have HDD := Lib.hid hdd
  have HFL := Lib.hid h.lt
  have HL2 := Lib.hid hok
  have HTd : Hid ((Wl.opened s).d = (Wl.begin_ s (Wl.nextOf s) (Wl.found s)).1) := Wl.begin_d (Wl.opening s) _ _
  have HR2 : Hid (∀ (w1 w2 w3 : World) A2 c2, Wl.Rws w2 w1.heap.size (.slice A2 (Wl.found s).length c2) (Wl.found s) → Below w2.heap.size w2 w3 → Wl.RwsR w3 (fun k => w1.heap.size ≤ k ∧ k < w2.heap.size) (.slice A2 (Wl.found s).length c2) (Wl.found s)) := fun w1 w2 w3 A2 c2 hr hb =>
    hr.toR.kept (fun k hk => hb.block k hk.2)
  clear h hok hd hdd hlen ff1 ff2 hNX
  generalize Wl.begin_ s (Wl.nextOf s) (Wl.found s) = BG at *
  obtain ⟨d2, e2⟩ := BG
  generalize Wl.opened s = T at *
  generalize Wl.nextOf s = NX at *
  generalize Wl.found s = RS at *
  generalize (Wl.now s).1 = NW at *
  generalize Wl.secs s = SS at *
  simp only at HTd HBG ⊢
  have HBx : Hid (∀ w3, Below w.heap.size w w3 → ∀ (w1 w2 : World) A2 c2, w.heap.size ≤ w1.heap.size → w1.heap.size ≤ w2.heap.size → Wl.Rws w2 w1.heap.size (.slice A2 RS.length c2) RS → Below w2.heap.size w2 w3 → NX < 4294967296 →
      Calls Try.prog 56 #[.pointer (some ⟨w3.heap.size, 0, none⟩), .int .u32 (NX : Int), .slice A2 RS.length c2] (w3.alloc (.cells #[.pointer (some ⟨p, 0, none⟩), .int .u32 0, .slice none 0 0, .int .i64 0, .bool false] 95)) fun e w' => e = .returned (.int .i64 e2) ∧
        Hid (∃ FD' R' v', Wl.LgAt w' w3.heap.size p FD' R' v' T ∧ Dk.Fr FD w w' ∧ (∀ k, FD' k → FD k ∨ w.heap.size ≤ k) ∧ (∀ k, R' k → w.heap.size ≤ k))) := fun w3 hb3 w1 w2 A2 c2 hs1 hs2 hr hb23 hnx => by
    have hb4 := (Below.refl w3.heap.size w3).alloc (Nat.le_refl _) (.cells #[.pointer (some ⟨p, 0, none⟩), .int .u32 0, .slice none 0 0, .int .i64 0, .bool false] 95)
    have hz : (w3.alloc (.cells #[.pointer (some ⟨p, 0, none⟩), .int .u32 0, .slice none 0 0, .int .i64 0, .bool false] 95)).heap.size = w3.heap.size + 1 := by simp
    have hs23 := hb23.size
    refine (HBG.out _ w3.heap.size (fun k => w1.heap.size ≤ k ∧ k < w2.heap.size) A2 c2 (HDD.out w3 hb3) (HR2.out w1 w2 _ A2 c2 hr (hb23.trans (hb4.mono hs23))) (fun hk => by omega) (fun k hf hk => by have := HFL.out k hf; omega) (fun k hk => by rw [hz]; omega) hnx).mono fun e w' ⟨g1, g2⟩ => ⟨g1, ?_⟩
    obtain ⟨FD', R', v', k1, k2, k3, k4⟩ := g2.out
    refine ⟨FD', R', v', k1, ?_, fun k hk => ?_, fun k hk => ?_⟩
    · have hb34 : Below w.heap.size w (w3.alloc (.cells #[.pointer (some ⟨p, 0, none⟩), .int .u32 0, .slice none 0 0, .int .i64 0, .bool false] 95)) := hb3.trans (hb4.mono hb3.size)
      have hf0 : Dk.Fr FD w (w3.alloc (.cells #[.pointer (some ⟨p, 0, none⟩), .int .u32 0, .slice none 0 0, .int .i64 0, .bool false] 95)) := Dk.Fr.of_below hb34
      refine hf0.trans k2 (fun k hk hF => ?_)
      have := hb3.size
      rcases hF with h | h | h
      · omega
      · exact h
      · exact h.elim
    · rcases k3 k hk with h | h
      · exact .inl h
      · right
        have := hb3.size
        rw [hz] at h
        omega
    · rcases k4 k hk with h | h
      · exact h.elim
      · omega
  by_cases h1 : 4294967295 < NX
  · have hNi : (4294967295 : Int) < (NX : Int) := by omega
    go_enter Try.func38, Try.ntmps38
    go_wp2_with (first
      | (go_at_call 48; refine HSZ.out.mono ?_; rintro e w1 ⟨rfl, rfl⟩)
      | (go_at_call 69; refine HRA.out.mono ?_; rintro e w1 ⟨A1, c1, rfl, HR1, hb1⟩)
      | (go_at_call 70; refine (HCR.out w1 A1 c1 HR1.out).mono ?_; rintro e w2 ⟨A2, c2, rfl, HQ2, hb2⟩)
      | (go_at_call 71; refine (HNE.out w1 A1 c1 w2 HR1.out hb2).mono ?_; rintro e w3 ⟨rfl, hb3⟩))
    go_ret2
    have s1 := hb1.size
    have s2 := hb2.size
    exact ⟨fun _ => ⟨rfl, (hb1.trans (hb2.mono s1)).trans (hb3.mono (by omega))⟩, fun h => absurd h1 h, fun h => absurd h1 h⟩
  · have hNi : ¬ (4294967295 : Int) < (NX : Int) := by omega
    have hNl : NX < 4294967296 := by omega
    by_cases h2 : e2 = 0
    · subst h2
      go_enter Try.func38, Try.ntmps38
      go_wp2_with (first
        | (go_at_call 48; refine HSZ.out.mono ?_; rintro e w1 ⟨rfl, rfl⟩)
        | (go_at_call 69; refine HRA.out.mono ?_; rintro e w1 ⟨A1, c1, rfl, HR1, hb1⟩)
        | (go_at_call 70; refine (HCR.out w1 A1 c1 HR1.out).mono ?_; rintro e w2 ⟨A2, c2, rfl, HQ2, hb2⟩)
        | (go_at_call 71; refine (HNE.out w1 A1 c1 w2 HR1.out hb2).mono ?_; rintro e w3 ⟨rfl, hb3⟩; have s1 := hb1.size; have s2 := hb2.size; have hb03 := (hb1.trans (hb2.mono s1)).trans (hb3.mono (Nat.le_trans s1 s2)))
        | (go_at_call 56; refine (HBx.out w3 hb03 w1 w2 A2 c2 s1 s2 HQ2.out hb3 hNl).mono ?_; rintro e w5 ⟨rfl, HG5⟩))
      go_ret2
      refine ⟨fun h => absurd h h1, fun _ h => absurd rfl h, fun _ _ => ⟨w3.heap.size, rfl, ?_⟩⟩
      obtain ⟨FD', R', v', k1, k2, k3, k4⟩ := HG5.out
      exact ⟨FD', R', v', k1, k2, k3, k4, hb03.size⟩
    · have hz : (e2 != 0) = true := bne_iff_ne.2 h2
      go_enter Try.func38, Try.ntmps38
      go_wp2_with (first
        | (go_at_call 48; refine HSZ.out.mono ?_; rintro e w1 ⟨rfl, rfl⟩)
        | (go_at_call 69; refine HRA.out.mono ?_; rintro e w1 ⟨A1, c1, rfl, HR1, hb1⟩)
        | (go_at_call 70; refine (HCR.out w1 A1 c1 HR1.out).mono ?_; rintro e w2 ⟨A2, c2, rfl, HQ2, hb2⟩)
        | (go_at_call 71; refine (HNE.out w1 A1 c1 w2 HR1.out hb2).mono ?_; rintro e w3 ⟨rfl, hb3⟩; have s1 := hb1.size; have s2 := hb2.size; have hb03 := (hb1.trans (hb2.mono s1)).trans (hb3.mono (Nat.le_trans s1 s2)))
        | (go_at_call 56; refine (HBx.out w3 hb03 w1 w2 A2 c2 s1 s2 HQ2.out hb3 hNl).mono ?_; rintro e w5 ⟨rfl, HG5⟩))
      go_ret2
      refine ⟨fun h => absurd h h1, fun _ _ => ⟨rfl, ?_⟩, fun _ h => absurd h h2⟩
      obtain ⟨FD', R', v', k1, k2, k3, k4⟩ := HG5.out
      have := k1.dsk
      rw [HTd.out] at this
      exact ⟨FD', this, k2, k3⟩
end Go.Proofs.Ytogkaoiiddhdbaa
