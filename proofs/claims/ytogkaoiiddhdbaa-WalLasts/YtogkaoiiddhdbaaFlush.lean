/- Contracts of Flush and Restart. -/
import Derived.Test.YtogkaoiiddhdbaaIo
namespace Go.Proofs.Ytogkaoiiddhdbaa
open Go.RowKit

namespace Dk
def S.fcode (s : S) : Int := if s.down = true then 3 else if s.burn.down = true then 3 else 0
def S.flush (s : S) : S := if s.down = true then s else if s.burn.down = true then s.burn else s.burn.done
theorem doneOver_snoc (f : Int → Option (List UInt8)) (l : List (Int × List UInt8)) (i : Int) (b : List UInt8) : doneOver f (l ++ [(i, b)]) = fun k => if k = i then some b else doneOver f l k := by
  funext k
  simp only [doneOver, lastFrom_append, lastFrom]
  by_cases h : i = k
  · subst h; simp
  · rw [if_neg h, if_neg (Ne.symm h)]
theorem doneOver_nil (f : Int → Option (List UInt8)) : doneOver f [] = f := rfl
theorem take_snoc {α : Type} (l : List α) (j : Nat) (x : α) (h : l[j]? = some x) : l.take (j + 1) = l.take j ++ [x] := by
  rw [List.take_add_one, h]; rfl
theorem kept_snoc : ∀ (l : List (Int × List UInt8)) (x : Int × List UInt8) (m : List Bool), kept (l ++ [x]) m = kept l m ++ (if m.getD l.length false then [x] else [])
  | [], x, [] => by simp [kept]
  | [], x, b :: m => by cases b <;> simp [kept]
  | y :: r, x, [] => by simp [kept]
  | y :: r, x, b :: m => by cases b <;> simp [kept, kept_snoc r x m]
set_option maxRecDepth 100000 in
theorem wpList_load77 {w : World} {ops : Array Oper} {rest : List Oper} {o : Oper} {a : Act} {Q : Exit → Act → World → Prop} (hg : o.guard = none) (x : Operand) (hop : o.op = Op.load 122 x) (g off : Nat) (hx : a.eval x = .pointer (some ⟨g, off, none⟩)) (i : Int) (b : List UInt8) (hb : b.length = 512)
    (hr : w.rangeAt g off (wr i b)) (hK : wpList Try.prog ops Q rest (a.put o.dst (.agg (wr i b).toArray)) w) : wpList Try.prog ops Q (o :: rest) a w :=
  wpList_load_mid hg 122 x hop g off hx (wr i b) _ hr u77 rfl (by rw [length_wr, hb]; exact i77) hK
set_option maxRecDepth 100000 in
/-- One write of those that wait is laid. -/
theorem At.round {wr w1 w2 : World} {p a c : Nat} {v : Value} {s : S} {i : Int} {b : List UInt8} (h : At wr p a c v s) (hb1 : Below wr.heap.size wr w1) (hs1 : wr.heap.size < w1.heap.size) (hf2 : Fr (· = wr.heap.size) w1 w2)
    (hg2 : w2.heap[wr.heap.size]? = some (.cells (Dk.wr i b).toArray 122 (0, 0))) (hb : b.length = 512) :
    ∃ w3, (Instr.mapUpdate 83 (.map (some a)) (.int .i64 i) (.agg (cells8 b).toArray)).run Try.prog w2.drew = .ok () w3 ∧
      (w2.cell? ⟨p, 1, none⟩ = some (.map (some a)) ∧ w2.cell? ⟨wr.heap.size, 0, none⟩ = some (.int .i64 i) ∧ w2.rangeAt wr.heap.size 1 (cells8 b)) ∧
      (w3.cell? ⟨p, 1, none⟩ = some (.map (some a)) ∧ w3.cell? ⟨wr.heap.size, 0, none⟩ = some (.int .i64 i) ∧ w3.rangeAt wr.heap.size 1 (cells8 b)) ∧
      Hid (At w3 p a c v { s with safe := fun k => if k = i then some b else s.safe k }) ∧ Fr (Own p a c v) wr w3 ∧
      Hid (At w2 p a c v s) ∧ Fr (Own p a c v) wr w2 := by
  have hb2 : Below wr.heap.size wr w2 := hb1.trans (hf2.below hb1.size (fun k hk => by omega))
  have h2 : At w2 p a c v s := h.kept (fun k hk => hb2.block k (h.lt k hk))
  obtain ⟨w3, hq, hm, hf3⟩ := run_upd (w := w2.drew) (h2.safe.kept (w' := w2.drew) rfl) i u59 (.agg (cells8 b).toArray)
  have hk3 : ∀ k, k < w2.heap.size → k ≠ a → w3.heap[k]? = w2.heap[k]? := fun k hk hne => hf3.block k hk hne
  have hlt2 : wr.heap.size < w2.heap.size := Nat.lt_of_lt_of_le hs1 hf2.size
  have hla : a < wr.heap.size := h.safe.lt
  have hg3 := (hk3 _ hlt2 (by omega)).trans hg2
  have hfr2 : Fr (Own p a c v) wr w2 := Fr.of_below hb2
  refine ⟨w3, hq, ⟨h2.c1, ?_, ?_⟩, ⟨?_, ?_, ?_⟩, ?_, ?_, h2, hfr2⟩
  · exact cell_of_row w2 _ 0 _ _ _ hg2
  · exact rangeAt_sec (o := 0) (rangeAt_whole hg2)
  · exact (World.cell?_of_block (a := ⟨p, 1, none⟩) (hk3 p (lt_of_some h2.str) h2.pa)).trans h2.c1
  · exact cell_of_row w3 _ 0 _ _ _ hg3
  · exact rangeAt_sec (o := 0) (rangeAt_whole hg3)
  · refine ⟨(hk3 p (lt_of_some h2.str) h2.pa).trans h2.str, ?_, h2.late.kept (hk3 c h2.late.lt (Ne.symm h2.ac)), ownsRow_kept h2.row (fun g hg => hk3 g (h2.row.lt g hg).2 (fun e => h2.av (e ▸ hg))), h2.pa, h2.pc, h2.ac, h2.pv, h2.av, h2.cv, h2.okw, ?_⟩
    · refine hm.congr (fun k => ?_)
      show _ = secV (if k = i then some b else s.safe k)
      by_cases hki : k = i
      · rw [if_pos hki, if_pos hki]; rfl
      · rw [if_neg hki, if_neg hki]
    · intro k l hkl
      simp only at hkl
      split at hkl
      · injection hkl with hkl; rw [← hkl]; exact hb
      · exact h2.oks k l hkl
  · exact hfr2.trans (F := Own p a c v) (G := (· = a)) ⟨hf3.os, hf3.tape, hf3.output, hf3.size, fun k hk hne => hf3.block k hk hne⟩ (fun k _ hk => .inr (.inl hk))
theorem Gone.forgot {w wr w5 : World} {p a c : Nat} {v : Value} {s : S} (hfj : Fr (Own p a c v) w wr) (f5 : Fr (Own p a c v) wr w5) (h : At w5 p a wr.heap.size (.slice none 0 0) s) : Gone w (Own p a c v) w5 p s := by
  refine ⟨_, ⟨_, _, _, h, rfl⟩, hfj.trans f5 (fun _ _ h => h), ?_⟩
  rintro k (h | h | h | h)
  · exact .inl (.inl h)
  · exact .inl (.inr (.inl h))
  · right; rw [h]; exact hfj.size
  · cases h
end Dk

set_option maxRecDepth 100000 in
set_option maxHeartbeats 400000 in
theorem flush_any (w : World) (p : Nat) (F : Nat → Prop) (s : Dk.S) (h : Dk.Dsk w p F s) (hw : s.wait.length < 100000) (hl : 0 ≤ s.left) (hl2 : s.left ≤ 9223372036854775807) :
    Calls Try.prog 32 #[.pointer (some ⟨p, 0, none⟩)] w fun e w' => e = .returned (.int .i64 s.fcode) ∧ Hid (Dk.Gone w F w' p s.flush) := by
  obtain ⟨a, c, v, hA, rfl⟩ := h
  have H := Lib.hid hA
  have HS := Lib.hid (Dk.Gone.same ⟨a, c, v, hA, rfl⟩)
  have c4 := hA.c4
  clear hA
  unfold Dk.S.fcode Dk.S.flush
  by_cases h3 : s.down = true
  · rw [if_pos h3, if_pos h3]
    rw [h3] at c4
    clear h3
    go_enter Try.func32, Try.ntmps32
    go_wp2
    go_ret
    exact ⟨rfl, HS⟩
  · rw [if_neg h3, if_neg h3]
    have h3' : s.down = false := by simpa using h3
    rw [h3'] at c4
    clear h3 HS
    by_cases h4 : s.burn.down = true
    · rw [if_pos h4, if_pos h4]
      have H4 := Lib.hid h4
      clear h4
      go_enter Try.func32, Try.ntmps32
      go_wp2_with (go_at_call 64; refine (burn_any _ p a c v s H.out hl hl2).mono ?_; rintro e w1 ⟨rfl, H1, f1⟩; have c41 := H1.out.c4; rw [H4.out] at c41)
      go_ret
      exact ⟨rfl, _, ⟨_, _, _, H1.out, rfl⟩, Dk.Moved.still f1⟩
    · rw [if_neg h4, if_neg h4]
      have H4 := Lib.hid (show s.burn.down = false by simpa using h4)
      have hw1 : s.burn.wait.length < 100000 := by rw [Dk.burn_wait]; exact hw
      have HB := Lib.hid (fun w => burn_any w p a c v s)
      clear h4 h3'
      generalize hs1 : s.burn = s1 at H4 hw1 ⊢
      have HS1 := Lib.hid hs1
      clear hs1
      go_enter Try.func32, Try.ntmps32
      go_wp2_with (go_at_call 64; refine (HB.out _ H.out hl hl2).mono ?_; rw [HS1.out]; rintro e w1 ⟨rfl, H1, f1⟩; have c41 := H1.out.c4; rw [H4.out] at c41; have c21 := H1.out.c2; obtain ⟨B, cap, hv⟩ := Dk.slice_of _ _ _ _ H1.out.row; subst hv)
      go_loopw [20] (fun i wr => ∃ j : Nat, j ≤ s1.wait.length ∧ i = .int .i64 j ∧ Hid (Dk.At wr p a c (.slice B s1.wait.length cap) { s1 with safe := Dk.doneOver s1.safe (s1.wait.take j) }) ∧ Dk.Fr (Dk.Own p a c (.slice B s1.wait.length cap)) w wr) (fun i _ => s1.wait.length - (intOf i).toNat)
      case atStart => exact ⟨0, Nat.zero_le _, rfl, H1, f1⟩
      case round =>
        obtain ⟨j, hj, rfl, HAj, hfj⟩ := hrel
        by_cases hlt : j < s1.wait.length
        · obtain ⟨⟨k, b⟩, hx⟩ : ∃ x, s1.wait[j]? = some x := ⟨_, List.getElem?_eq_getElem hlt⟩
          have HX := Lib.hid hx
          have hbl : b.length = 512 := HAj.out.okw _ (List.mem_of_getElem? hx)
          obtain ⟨g, cap', hv', _, hr⟩ := HAj.out.wr_at j k b hx
          injection hv' with hB hL hC
          subst hB
          subst hC
          clear hL
          have HR := Lib.hid hr
          clear hx hr
          go_wp2_with (first
            | (refine Dk.wpList_load77 rfl _ rfl g (j * 513) (by rfl) k b hbl HR.out ?_)
            | (refine Dk.wpList_alloc rfl 122 rfl _ (Dk.z77 _) ?_; intro w2 hg2 hb2 hs2)
            | (refine Dk.wpList_store_whole rfl 122 _ _ rfl wr.heap.size rfl (Dk.wr k b) rfl _ _ hg2 (by rw [Dk.length_wr, hbl]; exact Dk.i77) (by rw [List.size_toArray, Dk.length_wr, Dk.length_wr, hbl, Dk.length_zeros]) (Dk.one_wr _ _) ?_; intro w3 hg3 hf3; obtain ⟨w4, hq, S3, S4, HA4, hf4, HA3, hf3'⟩ := HAj.out.round hb2 hs2 hf3 hg3 hbl; clear hg2 hb2 hs2 hg3 hf3))
          have hu := Dk.u75
          have hi : (Try.prog.info? 120).map (·.size) = some (Dk.cells8 b).length := by rw [Dk.length_cells8, hbl]; exact Dk.i75
          go_region_held3 (fun w' => w'.cell? ⟨p, 1, none⟩ = some (.map (some a)) ∧ w'.cell? ⟨wr.heap.size, 0, none⟩ = some (.int .i64 k) ∧ w'.rangeAt wr.heap.size 1 (Dk.cells8 b)) (first | exact S3 | exact S4) (first | fail)
          go_wp2
          go_roundw
          case rel =>
            refine ⟨j + 1, by omega, by go_num, ?_, hfj.trans hf4 (fun _ _ h => h)⟩
            rw [Dk.take_snoc _ j _ HX.out, Dk.doneOver_snoc]
            exact HA4
          case measure => simp [intOf]; omega
        · have HE := Lib.hid (show j = s1.wait.length by omega)
          go_wp2_with (go_at_call 68; refine (forget_any wr p a c _ _ HAj.out).mono ?_; rintro e w5 ⟨rfl, H5, f5⟩)
          go_ret
          exact ⟨rfl, Dk.Gone.forgot hfj f5 (by have := H5.out; rw [HE.out, List.take_length] at this; exact this)⟩
end Go.Proofs.Ytogkaoiiddhdbaa
