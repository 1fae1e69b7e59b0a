/- Contracts of Write and Read. -/
import Derived.Test.YtogkaoiiddhdbaaWait
namespace Go.Proofs.Ytogkaoiiddhdbaa
open Go.RowKit

namespace Dk
def S.wcode (s : S) (i : Int) (n : Nat) : Int := if s.has i = false then 1 else if n ≠ 512 then 2 else if s.down = true then 3 else if s.burn.down = true then 3 else 0
def S.write (s : S) (i : Int) (l : List UInt8) : S := if s.has i = false then s else if l.length ≠ 512 then s else if s.down = true then s else s.burn.put i l
theorem burn_wait (s : S) : s.burn.wait = s.wait := by unfold S.burn; split <;> (try split) <;> rfl
/-- A disk that has gone on from w, F. -/
def Gone (w : World) (F : Nat → Prop) (w' : World) (p : Nat) (s : S) : Prop := ∃ F', Dsk w' p F' s ∧ Moved w F w' F'
theorem Gone.same {w : World} {F : Nat → Prop} {p : Nat} {s : S} (h : Dsk w p F s) : Gone w F w p s := ⟨F, h, Moved.refl _ _⟩
end Dk

theorem write_any (w : World) (p : Nat) (F : Nat → Prop) (s : Dk.S) (i : Int) (A : Option Addr) (l : List UInt8) (cp : Nat) (G : Nat → Prop) (h : Dk.Dsk w p F s) (hb : Dk.Bts w G A l) (hd : ∀ k, G k → ¬ F k)
    (hw : s.wait.length < 100000) (hl : 0 ≤ s.left) (hl2 : s.left ≤ 9223372036854775807) :
    Calls Try.prog 29 #[.pointer (some ⟨p, 0, none⟩), .int .i64 i, .slice A l.length cp] w fun e w' => e = .returned (.int .i64 (s.wcode i l.length)) ∧ Hid (Dk.Gone w F w' p (s.write i l)) := by
  obtain ⟨a, c, v, hA, rfl⟩ := h
  have H := Lib.hid hA
  have HB := Lib.hid hb
  have HD := Lib.hid hd
  have HS := Lib.hid (Dk.Gone.same ⟨a, c, v, hA, rfl⟩)
  have c4 := hA.c4
  clear hA hb hd
  unfold Dk.S.wcode Dk.S.write
  by_cases h1 : s.has i = false
  · rw [if_pos h1, if_pos h1]
    go_enter Try.func29, Try.ntmps29
    go_wp2_with (go_at_call 63; refine (has_any _ p a c v s i H.out).mono ?_; rw [h1]; rintro e w1 ⟨rfl, rfl⟩)
    go_ret
    exact ⟨rfl, HS⟩
  · rw [if_neg h1, if_neg h1]
    have h1' : s.has i = true := by simpa using h1
    by_cases h2 : l.length ≠ 512
    · rw [if_pos h2, if_pos h2]
      go_enter Try.func29, Try.ntmps29
      go_wp2_with (go_at_call 63; refine (has_any _ p a c v s i H.out).mono ?_; rw [h1']; rintro e w1 ⟨rfl, rfl⟩)
      go_ret
      exact ⟨rfl, HS⟩
    · rw [if_neg h2, if_neg h2]
      have h2' : l.length = 512 := by omega
      clear h2
      rw [h2']
      by_cases h3 : s.down = true
      · rw [if_pos h3, if_pos h3]
        rw [h3] at c4
        clear h3
        go_enter Try.func29, Try.ntmps29
        go_wp2_with (go_at_call 63; refine (has_any _ p a c v s i H.out).mono ?_; rw [h1']; rintro e w1 ⟨rfl, rfl⟩)
        go_ret
        exact ⟨rfl, HS⟩
      · rw [if_neg h3, if_neg h3]
        have h3' : s.down = false := by simpa using h3
        rw [h3'] at c4
        clear h3 HS
        have HW := Lib.hid h2'
        by_cases h4 : s.burn.down = true
        · rw [if_pos h4]
          have H4 := Lib.hid h4
          clear h4 h2'
          go_enter Try.func29, Try.ntmps29
          go_wp2_with (first
            | (go_at_call 63; refine (has_any _ p a c v s i H.out).mono ?_; rw [h1']; rintro e w1 ⟨rfl, rfl⟩)
            | (go_at_call 64; refine (burn_any _ p a c v s H.out hl hl2).mono ?_; rintro e w1 ⟨rfl, H1, f1⟩)
            | (go_at_call 65; refine (wait_any _ p a c v s.burn i A l cp G H1.out (HB.out.fr f1 HD.out) HW.out (by rw [Dk.burn_wait]; exact hw)).mono ?_; rintro e w2 ⟨rfl, H2⟩; obtain ⟨F', ⟨a', c', v', hA', rfl⟩, hM⟩ := H2.out; have c4' := hA'.c4; have HA' := Lib.hid hA'; have HM := Lib.hid hM; clear hA' hM H2; rw [show (s.burn.put i l).down = true from H4.out] at c4'))
          go_ret
          exact ⟨rfl, _, ⟨_, _, _, HA'.out, rfl⟩, (Dk.Moved.still f1).trans HM.out⟩
        · rw [if_neg h4]
          have H4 := Lib.hid (show s.burn.down = false by simpa using h4)
          clear h4 h2'
          go_enter Try.func29, Try.ntmps29
          go_wp2_with (first
            | (go_at_call 63; refine (has_any _ p a c v s i H.out).mono ?_; rw [h1']; rintro e w1 ⟨rfl, rfl⟩)
            | (go_at_call 64; refine (burn_any _ p a c v s H.out hl hl2).mono ?_; rintro e w1 ⟨rfl, H1, f1⟩)
            | (go_at_call 65; refine (wait_any _ p a c v s.burn i A l cp G H1.out (HB.out.fr f1 HD.out) HW.out (by rw [Dk.burn_wait]; exact hw)).mono ?_; rintro e w2 ⟨rfl, H2⟩; obtain ⟨F', ⟨a', c', v', hA', rfl⟩, hM⟩ := H2.out; have c4' := hA'.c4; have HA' := Lib.hid hA'; have HM := Lib.hid hM; clear hA' hM H2; rw [show (s.burn.put i l).down = false from H4.out] at c4'))
          go_ret
          exact ⟨rfl, _, ⟨_, _, _, HA'.out, rfl⟩, (Dk.Moved.still f1).trans HM.out⟩

theorem read_no (w : World) (p : Nat) (F : Nat → Prop) (s : Dk.S) (i : Int) (h : Dk.Dsk w p F s) (hn : s.has i = false ∨ s.down = true) :
    Calls Try.prog 41 #[.pointer (some ⟨p, 0, none⟩), .int .i64 i] w fun e w' => e = .returned (.tuple #[.slice none 0 0, .int .i64 (if s.has i = false then 1 else 3)]) ∧ w = w' := by
  obtain ⟨a, c, v, hA, rfl⟩ := h
  have H := Lib.hid hA
  have c4 := hA.c4
  clear hA
  by_cases h1 : s.has i = false
  · rw [if_pos h1]
    clear hn
    go_enter Try.func41, Try.ntmps41
    go_wp2_with (go_at_call 63; refine (has_any _ p a c v s i H.out).mono ?_; rw [h1]; rintro e w1 ⟨rfl, rfl⟩)
    go_ret2
    exact ⟨rfl, rfl⟩
  · rw [if_neg h1]
    have h1' : s.has i = true := by simpa using h1
    have h3 : s.down = true := hn.resolve_left h1
    rw [h3] at c4
    clear hn h1 h3
    go_enter Try.func41, Try.ntmps41
    go_wp2_with (go_at_call 63; refine (has_any _ p a c v s i H.out).mono ?_; rw [h1']; rintro e w1 ⟨rfl, rfl⟩)
    go_ret2
    exact ⟨rfl, rfl⟩

namespace Dk
theorem At.wr_at {w : World} {p a c : Nat} {v : Value} {s : S} (h : At w p a c v s) (j : Nat) (k : Int) (b : List UInt8) (hj : s.wait[j]? = some (k, b)) :
    ∃ g cap, v = .slice (some ⟨g, 0, none⟩) s.wait.length cap ∧ j < s.wait.length ∧ w.rangeAt g (j * 513) (wr k b) := by
  have hlt : j < s.wait.length := (List.getElem?_eq_some_iff.1 hj).1
  have hb : b.length = 512 := h.okw _ (List.mem_of_getElem? hj)
  rcases h.row.2 with hr | ⟨g, cap, cur, hv, _, hg, _, _, _, htake⟩
  · omega
  · refine ⟨g, cap, hv, hlt, fun q u hu => ?_⟩
    have hq : q < 513 := by
      have := (List.getElem?_eq_some_iff.1 hu).1
      rw [length_wr, hb] at this
      exact this
    have hf := flat_at s.wait j (k, b) h.okw hj q hq
    rw [cell_of_row w g _ _ _ _ hg, ← Array.getElem?_toList]
    have h2 : (cur.toList.take (s.wait.length * 513))[j * 513 + q]? = (wr k b)[q]? := by rw [htake, hf]; rfl
    rw [List.getElem?_take_of_lt (by omega)] at h2
    rw [h2]
    exact hu
theorem rangeAt_sec {w : World} {g o : Nat} {k : Int} {b : List UInt8} (h : w.rangeAt g o (wr k b)) : w.rangeAt g (o + 1) (cells8 b) := by
  intro j u hu
  have := h (j + 1) u (by simpa [wr] using hu)
  rw [show o + 1 + j = o + (j + 1) by omega]
  exact this
theorem sec_len {w : World} {p a c : Nat} {v : Value} {s : S} (h : At w p a c v s) (k : Int) : ((s.safe k).getD zeros).length = 512 := by
  cases hs : s.safe k with
  | none => exact length_zeros
  | some l => exact h.oks k l hs
theorem wpList_load75 {w : World} {ops : Array Oper} {rest : List Oper} {o : Oper} {a : Act} {Q : Exit → Act → World → Prop} (hg : o.guard = none) (x : Operand) (hop : o.op = Op.load 120 x) (g off : Nat) (hx : a.eval x = .pointer (some ⟨g, off, none⟩)) (b : List UInt8) (hb : b.length = 512)
    (hr : w.rangeAt g off (cells8 b)) (hK : wpList Try.prog ops Q rest (a.put o.dst (.agg (cells8 b).toArray)) w) : wpList Try.prog ops Q (o :: rest) a w :=
  wpList_load_mid hg 120 x hop g off hx (cells8 b) _ hr u75 rfl (by rw [length_cells8, hb]; exact i75) hK
theorem late_none {w : World} {p a c : Nat} {v : Value} {s : S} (h : At w p a c v s) {i : Int} (hx : lastIx s.wait i = none) : (Instr.lookup 84 (.map (some c)) (.int .i64 i) true).run Try.prog w = .ok (.tuple #[.int .i64 0, .bool false]) w := by
  rw [run_look h.late i u60 (.int .i64 0) (z3 w) true, hx]; rfl
theorem late_some {w : World} {p a c : Nat} {v : Value} {s : S} (h : At w p a c v s) {i : Int} {j : Nat} (hx : lastIx s.wait i = some j) : (Instr.lookup 84 (.map (some c)) (.int .i64 i) true).run Try.prog w = .ok (.tuple #[.int .i64 (j : Int), .bool true]) w := by
  rw [run_look h.late i u60 (.int .i64 0) (z3 w) true, hx]; rfl
theorem getD_sec (o : Option (List UInt8)) : (secV o).getD zeroSec = .agg (cells8 (o.getD zeros)).toArray := by
  cases o <;> rfl
end Dk

set_option maxRecDepth 100000 in
set_option maxHeartbeats 400000 in
theorem read_yes (w : World) (p : Nat) (F : Nat → Prop) (s : Dk.S) (i : Int) (h : Dk.Dsk w p F s) (h1 : s.has i = true) (h2 : s.down = false) :
    Calls Try.prog 41 #[.pointer (some ⟨p, 0, none⟩), .int .i64 i] w fun e w' => e = .returned (.tuple #[.slice (some ⟨w.heap.size, 0, none⟩) 512 512, .int .i64 0]) ∧ Hid (Dk.Row w' w.heap.size 120 (s.get i)) ∧ Below w.heap.size w w' := by
  obtain ⟨a, c, v, hA, rfl⟩ := h
  have H := Lib.hid hA
  have c4 := hA.c4
  rw [h2] at c4
  have c1 := hA.c1
  have hlen := Dk.sec_len hA i
  have hq : (Instr.lookup 83 (.map (some a)) (.int .i64 i) false).run Try.prog w = .ok (.agg (Dk.cells8 ((s.safe i).getD Dk.zeros)).toArray) w := by
    rw [Dk.run_look hA.safe i Dk.u59 Dk.zeroSec (Dk.z75 w), ← Dk.getD_sec]; rfl
  have HK : Hid (∀ w1 w2, Below w.heap.size w w1 → w.heap.size < w1.heap.size → Dk.Fr (· = w.heap.size) w1 w2 → Dk.At w2 p a c v s ∧ Below w.heap.size w w2) := fun w1 w2 hb1 _ hf2 =>
    have hb2 : Below w.heap.size w w2 := hb1.trans (hf2.below hb1.size (fun k hk => by omega))
    ⟨hA.kept (fun k hk => hb2.block k (hA.lt k hk)), hb2⟩
  clear h2 hA
  unfold Dk.S.get
  generalize (s.safe i).getD Dk.zeros = L at hq hlen
  cases hix : Dk.lastIx s.wait i with
  | none =>
    rw [Dk.lastIx_none hix]
    have HX := Lib.hid hix
    clear hix
    go_enter Try.func41, Try.ntmps41
    go_wp2_with (first
      | (go_at_call 63; refine (has_any _ p a c v s i H.out).mono ?_; rw [h1]; rintro e w1 ⟨rfl, rfl⟩)
      | (refine Dk.wpList_alloc rfl 120 rfl _ (Dk.z75 _) ?_; intro w1 hg1 hb1 hs1)
      | (refine Dk.wpList_store_whole rfl 120 _ _ rfl w.heap.size rfl (Dk.cells8 L) rfl _ _ hg1 (by rw [Dk.length_cells8, hlen]; exact Dk.i75) (by rw [List.size_toArray, Dk.length_cells8, Dk.length_cells8, hlen, Dk.length_zeros]) (Dk.one_cells8 _) ?_; intro w2 hg2 hf2; obtain ⟨hA2, hb2⟩ := HK.out w1 w2 hb1 hs1 hf2; have c3 := hA2.c3; have hq2 := Dk.late_none hA2 HX.out; clear hA2 hq))
    go_ret2
    exact ⟨rfl, hg2, hb2⟩
  | some j =>
    obtain ⟨b, hj, hb⟩ := Dk.lastIx_some hix
    rw [hb]
    have HX := Lib.hid hix
    have HJ := Lib.hid hj
    obtain ⟨g, cap, hv, hlt, _⟩ := H.out.wr_at j i b hj
    have hbl : b.length = 512 := H.out.okw _ (List.mem_of_getElem? hj)
    subst hv
    clear hix hb hj
    go_enter Try.func41, Try.ntmps41
    go_wp2_with (first
      | (go_at_call 63; refine (has_any _ p a c _ s i H.out).mono ?_; rw [h1]; rintro e w1 ⟨rfl, rfl⟩)
      | (refine Dk.wpList_alloc rfl 120 rfl _ (Dk.z75 _) ?_; intro w1 hg1 hb1 hs1)
      | (refine Dk.wpList_store_whole rfl 120 _ _ rfl w.heap.size rfl (Dk.cells8 L) rfl _ _ hg1 (by rw [Dk.length_cells8, hlen]; exact Dk.i75) (by rw [List.size_toArray, Dk.length_cells8, Dk.length_cells8, hlen, Dk.length_zeros]) (Dk.one_cells8 _) ?_; intro w2 hg2 hf2; obtain ⟨hA2, hb2⟩ := HK.out w1 w2 hb1 hs1 hf2; have c3 := hA2.c3; have c2 := hA2.c2; have hq2 := Dk.late_some hA2 HX.out; obtain ⟨g', cap', hv', _, hr⟩ := hA2.wr_at j i b HJ.out; injection hv' with hv'; injection hv' with hv'; injection hv' with hv'; subst hv'; have HR := Lib.hid (Dk.rangeAt_sec hr); clear hA2 hq hr)
      | (refine Dk.wpList_load75 rfl _ rfl g (j * 513 + 1) (by rfl) b hbl HR.out ?_)
      | (refine Dk.wpList_store_whole rfl 120 _ _ rfl w.heap.size rfl (Dk.cells8 b) rfl _ _ hg2 (by rw [Dk.length_cells8, hbl]; exact Dk.i75) (by rw [List.size_toArray, Dk.length_cells8, Dk.length_cells8, hlen, hbl]) (Dk.one_cells8 _) ?_; intro w3 hg3 hf3))
    go_ret2
    exact ⟨rfl, hg3, hb2.trans (hf3.below hb2.size (fun k hk => by omega))⟩
end Go.Proofs.Ytogkaoiiddhdbaa
