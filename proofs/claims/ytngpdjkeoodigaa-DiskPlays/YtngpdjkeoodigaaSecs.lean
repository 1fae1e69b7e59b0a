/- Contracts of sectors and same. -/
import Derived.Test.YtngpdjkeoodigaaMade
namespace Go.Proofs.Ytngpdjkeoodigaa
open Go.RowKit

namespace Dk
/-- A text of bytes. -/
def str (b : List UInt8) : Value := .string ⟨b.toArray⟩
/-- v is a slice of the texts l, in a row of its own from block base on. -/
def Txs (w : World) (base : Nat) (v : Value) (l : List (List UInt8)) : Prop := w.ownsRow base 9 1 v l.length (l.map str)
theorem i9b : (Try.prog.info? 9).map (fun i => (i.zero, i.size, i.bytes)) = some (some (.string ⟨#[]⟩), 1, 16) := by kernel_rfl
theorem wpList_appendS {w : World} {ops : Array Oper} {rest : List Oper} {o : Oper} {a : Act} {Q : Exit → Act → World → Prop} (hgd : o.guard = none) (s x : Operand)
    (hop : o.op = .call { callee := .builtin .append, args := #[s, x], argTypes := #[43, 43] }) (base : Nat) (v : Value) (l : List (List UInt8)) (b : List UInt8) (hs : a.eval s = v) {W : World} (hW : w = W.alloc (.cells #[str b] 9)) (hown : Txs W base v l)
    (hx : a.eval x = .slice (some ⟨W.heap.size, 0, none⟩) 1 1) (hl : l.length ≤ 1000) (hb : base ≤ W.heap.size)
    (hK : ∀ v' w', Txs w' base v' (l ++ [b]) → Below base W w' → (∃ g cap, v' = .slice (some ⟨g, 0, none⟩) (l.length + 1) cap) → wpList Try.prog ops Q rest (a.put o.dst v') w') : wpList Try.prog ops Q (o :: rest) a w := by
  subst hW
  obtain ⟨i0, hi0, hz0, hz1, hz2⟩ := info_parts i9b
  refine wpList_append_own _ hgd s x 43 hop base 9 i0 _ 1 16 Try.underlying43 hi0 hz0 hz1 hz2 rfl (by omega) v l.length (l.map str) hs (World.ownsRow.alloc hown _) ⟨W.heap.size, 0, none⟩ 1 1 [str b] hx rfl (cell_one_new W (str b) 9) (by intro u hu; simp at hu; subst hu; rfl) (by unfold maxLen; omega) (by omega) (by simp; omega) ?_
  intro v' w' h1 h2 _
  have hT : Txs w' base v' (l ++ [b]) := by
    unfold Txs
    rw [List.length_append, List.map_append]
    exact h1
  refine hK v' w' hT ?_ ?_
  · have hg := ((Below.refl base W).alloc hb (.cells #[str b] 9)).grown h2 (by simp; omega) (fun k hk => (hown.lt k hk).1)
    exact hg
  · rcases h1.2 with h3 | ⟨g, cap, cur, h3, _⟩
    · omega
    · exact ⟨g, cap, h3⟩
theorem Txs.cell {w : World} {base g n cap : Nat} {l : List (List UInt8)} (h : Txs w base (.slice (some ⟨g, 0, none⟩) n cap) l) (j : Nat) (hj : j < l.length) : w.cell? ⟨g, j, none⟩ = some (str l[j]) := by
  have := World.ownsRow.cells h (g := g) rfl j (str l[j]) (by simp [hj])
  rwa [add_plain, Nat.zero_add] at this
theorem Txs.kept {w w' : World} {base g n cap : Nat} {l : List (List UInt8)} (h : Txs w base (.slice (some ⟨g, 0, none⟩) n cap) l) (e : w'.heap[g]? = w.heap[g]?) : Txs w' base (.slice (some ⟨g, 0, none⟩) n cap) l := by
  obtain ⟨h1, h2⟩ := h
  refine ⟨h1, ?_⟩
  rcases h2 with h2 | ⟨g', cap', cur, hv, hg, hh, r⟩
  · exact .inl h2
  · injection hv with hv _ _
    injection hv with hv
    injection hv with hv
    subst hv
    exact .inr ⟨g, cap', cur, by simp_all, hg, e.trans hh, r⟩
theorem below_drewN {B : Nat} {a w : World} (h : Below B a w) (n : Nat) : Below B a (w.drewN n) := ⟨h.os, h.tape, h.output, h.size, h.block⟩
/-- The texts of the first k sectors. -/
def secs (s : S) (k : Nat) : List (List UInt8) := (List.range k).map fun (i : Nat) => s.get (i : Int)
theorem secs_succ (s : S) (k : Nat) : secs s (k + 1) = secs s k ++ [s.get (k : Int)] := by simp [secs, List.range_succ]
theorem length_secs (s : S) (k : Nat) : (secs s k).length = k := by simp [secs]
theorem get_len {w : World} {p a c : Nat} {v : Value} {s : S} (h : At w p a c v s) (k : Int) : (s.get k).length = 512 := by
  unfold S.get
  cases hx : lastW s.wait k with
  | none => exact sec_len h k
  | some b =>
    rcases lastFrom_mem k s.wait none b hx with h1 | ⟨x, hm, e⟩
    · cases h1
    · exact e ▸ h.okw x hm
theorem Live.get_len {w0 w : World} {X : Nat → Prop} {p : Nat} {s : S} (h : Live w0 X w p s) (k : Int) : (s.get k).length = 512 := by
  obtain ⟨a, c, v, hA⟩ := h.at
  exact Dk.get_len hA k
theorem Txs.below {w w' : World} {base : Nat} {v : Value} {l : List (List UInt8)} (h : Txs w base v l) (hb : Below w.heap.size w w') : Txs w' base v l := by
  have hlt := h.lt
  obtain ⟨h1, h2⟩ := h
  refine ⟨h1, ?_⟩
  rcases h2 with h2 | ⟨g, cap, cur, hv, hg, hh, r⟩
  · exact .inl h2
  · exact .inr ⟨g, cap, cur, hv, hg, (hb.block g (hlt g (by rw [hv]; rfl)).2).trans hh, r⟩
end Dk
theorem read_new {w0 w : World} {X : Nat → Prop} {p : Nat} {s : Dk.S} (i : Int) (h : Dk.Live w0 X w p s) (h1 : s.has i = true) (h2 : s.down = false) :
    Calls Try.prog 22 #[.pointer (some ⟨p, 0, none⟩), .int .i64 i] w fun e w' => e = .returned (.tuple #[.slice (some ⟨w.heap.size, 0, none⟩) 512 512, .int .i64 0]) ∧ Hid (Dk.Row w' w.heap.size 75 (s.get i)) ∧ Below w.heap.size w w' := by
  obtain ⟨F, hD, _⟩ := id h
  exact read_yes w p F s i hD h1 h2

set_option maxRecDepth 100000 in
set_option maxHeartbeats 1000000 in
theorem sectors_any (w0 w : World) (X : Nat → Prop) (p : Nat) (s : Dk.S) (h : Dk.Live w0 X w p s) (hn : s.n = 6) (hd : s.down = false) :
    Calls Try.prog 14 #[.pointer (some ⟨p, 0, none⟩)] w fun e w' => ∃ g cap, e = .returned (.slice (some ⟨g, 0, none⟩) 6 cap) ∧ w.heap.size ≤ g ∧ Hid (Dk.Txs w' w.heap.size (.slice (some ⟨g, 0, none⟩) 6 cap) (Dk.secs s 6)) ∧ Below w.heap.size w w' := by
  have H := Lib.hid h
  have HN := Lib.hid hn
  have HD := Lib.hid hd
  clear h hn hd
  go_enter Try.func14, Try.ntmps14
  go_wp2
  go_loopw [3, 4] (fun a i wr => ∃ (j : Nat), j ≤ 6 ∧ i = .int .i64 j ∧ Hid (Dk.Txs wr w.heap.size a (Dk.secs s j)) ∧ Hid (j = 0 ∨ ∃ g cap, a = .slice (some ⟨g, 0, none⟩) j cap) ∧ Below w.heap.size w wr) (fun _ i _ => 6 - (intOf i).toNat)
  case atStart =>
    have h0 : Dk.Txs w w.heap.size (.slice none 0 0) (Dk.secs s 0) := World.ownsRow_nil _ _ _ _
    exact ⟨0, by omega, rfl, h0, .inl rfl, Below.refl _ _⟩
  case round =>
    obtain ⟨j, hj, rfl, HT, HF, hb⟩ := hrel
    have HL := Lib.hid (H.out.below hb).1
    by_cases h6 : j < 6
    · have hsz := hb.size
      go_wp2_with (first
        | (go_at_call 26; refine (size_live HL.out).mono ?_; rw [HN.out]; rintro e w4 ⟨rfl, rfl⟩)
        | (go_at_call 22; refine (read_new (j : Int) HL.out (Dk.has_of (by omega) (by rw [HN.out]; omega)) HD.out).mono ?_; rintro e w5 ⟨rfl, HR5, hb5⟩; have q1 := Dk.conv512 HR5.out (HL.out.get_len _); have HT5 := Lib.hid (HT.out.below hb5); have hs5 := hb5.size)
        | (refine Dk.wpList_appendS rfl _ _ rfl w.heap.size u3 (Dk.secs s j) (s.get (j : Int)) rfl rfl HT5.out rfl (by rw [Dk.length_secs]; omega) (by omega) ?_; intro v' w7 hT7 hb7 hsh; have HT7 := Lib.hid hT7; have HS7 := Lib.hid hsh; have hb8 := (hb.trans (hb5.mono hb.size)).trans hb7; clear hT7 hsh hb7))
      go_roundw
      case rel => exact ⟨j + 1, by omega, by go_num, by rw [Dk.secs_succ]; exact HT7, .inr (by have := HS7.out; rw [Dk.length_secs] at this; exact this), hb8⟩
      case measure => simp [intOf]; omega
    · have h6' : j = 6 := by omega
      subst h6'
      obtain ⟨g, cap, rfl⟩ := HF.out.resolve_left (by omega)
      go_wp2_with (go_at_call 26; refine (size_live HL.out).mono ?_; rw [HN.out]; rintro e w4 ⟨rfl, rfl⟩)
      go_ret
      exact ⟨g, cap, rfl, (HT.out.lt g rfl).1, HT, hb⟩

set_option maxHeartbeats 400000 in
/-- Two slices of the same texts. -/
theorem same_yes (w : World) (ga gb na nb ca cb : Nat) (l : List (List UInt8)) (hl : l.length ≤ 1000) (hna : na = l.length) (hnb : nb = l.length) (ha : ∀ j (hj : j < l.length), w.cell? ⟨ga, j, none⟩ = some (Dk.str l[j])) (hb : ∀ j (hj : j < l.length), w.cell? ⟨gb, j, none⟩ = some (Dk.str l[j])) :
    Calls Try.prog 21 #[.slice (some ⟨ga, 0, none⟩) na ca, .slice (some ⟨gb, 0, none⟩) nb cb] w fun e w' => e = .returned (.bool true) ∧ Below w.heap.size w w' := by
  subst hna
  subst hnb
  have HA := Lib.hid ha
  have HB := Lib.hid hb
  clear ha hb
  go_enter Try.func21, Try.ntmps21
  go_wp2
  go_loopw [5] (fun i wr => ∃ (j : Nat), j ≤ l.length ∧ i = .int .i64 j ∧ Below w.heap.size w wr) (fun i _ => l.length - (intOf i).toNat)
  case atStart => exact ⟨0, by omega, rfl, Below.refl _ _⟩
  case round =>
    obtain ⟨j, hj, rfl, hb⟩ := hrel
    by_cases h6 : j < l.length
    · have k1 := (hb.cell (p := ⟨ga, j, none⟩) (World.block_lt_of_cell? w _ (HA.out j h6))).trans (HA.out j h6)
      have k2 := (hb.cell (p := ⟨gb, j, none⟩) (World.block_lt_of_cell? w _ (HB.out j h6))).trans (HB.out j h6)
      unfold Dk.str at k1 k2
      generalize l[j] = x at k1 k2
      go_wp2_with (fail)
      go_quiet (fail)
      go_wp2
      go_roundw
      case rel => exact ⟨j + 1, by omega, by go_num, by first | exact hb.drew | exact Dk.below_drewN hb _⟩
      case measure => simp [intOf]; omega
    · go_wp2
      go_ret
      exact ⟨rfl, hb⟩
end Go.Proofs.Ytngpdjkeoodigaa
