/- What DiskFuse needs besides the contracts: the row of bools, unlike sectors, the state behind each call. -/
import Derived.Test.YtngpdjkeoodigaaFrame
namespace Go.Proofs.Ytngpdjkeoodigaa
open Go.RowKit

namespace Dk
theorem Ready.next {w0 w w' : World} {X : Nat → Prop} {p g : Nat} {s s' : S} {l : List UInt8} (h : Ready w0 X w p s g l) (hL : Live w0 (fun k => X k ∨ k = g) w' p s') (hS : Same (fun k => X k ∨ k = g) w w') : Ready w0 X w' p s' g l :=
  ⟨hL, (hS g (.inr rfl)).trans h.2.1, h.2.2⟩
/-- Block g is just the bools m. -/
def BRow (w : World) (g : Nat) (m : List Bool) : Prop := w.heap[g]? = some (.cells (m.map Value.bool).toArray 4 (0, 0))
theorem BRow.cell {w : World} {g : Nat} {m : List Bool} (h : BRow w g m) (j : Nat) (hj : j < m.length) : w.cell? ⟨g, j, none⟩ = some (.bool m[j]) := by
  rw [cell_of_row w g j _ _ _ h, List.getElem?_toArray]
  simp [hj]
theorem BRow.free {w : World} {g : Nat} {m : List Bool} (h : BRow w g m) (j : Nat) : w.frozen? ⟨g, j, none⟩ = false := by
  unfold BRow at h
  simp [World.frozen?, h]
theorem BRow.set {w : World} {g : Nat} {m : List Bool} (h : BRow w g m) (j : Nat) (x : Bool) : BRow (w.setCell ⟨g, j, none⟩ (.bool x)) g (m.set j x) := by
  unfold BRow at h ⊢
  simp [World.setCell, Array.getElem?_modify, h, List.map_set]
theorem BRow.bls {w : World} {g : Nat} {m : List Bool} (h : BRow w g m) (G : Nat → Prop) (hG : G g) : Bls w G (some ⟨g, 0, none⟩) m := fun _ =>
  ⟨g, 0, rfl, hG, fun j hj => by rw [Nat.zero_add]; exact h.cell j hj⟩
theorem bool_info : (Try.prog.info? 4).map (fun i => (i.zero, i.size, i.bytes)) = some (some (.bool false), 1, 1) := by kernel_rfl
theorem made_bools (n : Nat) : madeCells #[.bool false] n = ((List.replicate n false).map Value.bool).toArray := by
  apply Array.toList_inj.1
  rw [toList_madeCells_one]
  simp
/-- make([]bool, n). -/
theorem wpList_makeB {w : World} {ops : Array Oper} {rest : List Oper} {o : Oper} {a : Act} {Q : Exit → Act → World → Prop}
    (hg : o.guard = none) (x c : Operand) (hop : o.op = Op.makeSlice 35 x c) (n : Nat) (L C : Int) (hl : a.eval x = .int .i64 L) (hc : a.eval c = .int .i64 C) (hL : L = (n : Int)) (hC : C = (n : Int)) (hn : n ≤ 100000)
    (hK : ∀ w', Hid (BRow w' w.heap.size (List.replicate n false)) → Below w.heap.size w w' → w.heap.size < w'.heap.size → wpList Try.prog ops Q rest (a.put o.dst (.slice (some ⟨w.heap.size, 0, none⟩) n n)) w') :
    wpList Try.prog ops Q (o :: rest) a w := by
  obtain ⟨i0, hi0, hz0, hz1, hz2⟩ := info_parts bool_info
  subst hL
  subst hC
  refine wpList_make_row w hg x c 35 hop 4 i0 (.bool false) Try.underlying35 hi0 hz0 hz1 rfl .i64 .i64 n hl hc (by rw [hz2]; omega) (by omega) ?_
  refine hK _ ?_ ((Below.refl _ _).alloc (Nat.le_refl _) _) (by simp)
  show _ = _
  rw [made_bools]
  exact heap_alloc_new w _
/-- j of n told. -/
def told (x : Bool) (n j : Nat) : List Bool := List.replicate j x ++ List.replicate (n - j) false
theorem told_zero (x : Bool) (n : Nat) : told x n 0 = List.replicate n false := by simp [told]
theorem told_all (x : Bool) (n : Nat) : told x n n = List.replicate n x := by simp [told]
theorem length_told (x : Bool) (n j : Nat) (h : j ≤ n) : (told x n j).length = n := by simp [told]; omega
theorem told_succ (x : Bool) (n j : Nat) (h : j < n) : (told x n j).set j x = told x n (j + 1) := by
  obtain ⟨m, rfl⟩ : ∃ m, n = j + 1 + m := ⟨n - j - 1, by omega⟩
  unfold told
  rw [List.set_append_right _ _ (by simp), show j + 1 + m - j = m + 1 by omega, show j + 1 + m - (j + 1) = m by omega, List.replicate_succ, List.replicate_succ']
  simp
theorem kept_true : ∀ (l : List (Int × List UInt8)), kept l (List.replicate l.length true) = l
  | [] => rfl
  | x :: r => by simp [kept, List.replicate_succ, kept_true r]
theorem kept_false : ∀ (l : List (Int × List UInt8)) (n : Nat), kept l (List.replicate n false) = []
  | [], _ => rfl
  | x :: r, 0 => rfl
  | x :: r, n + 1 => by simp [kept, List.replicate_succ, kept_false r n]
/-- The sector that round j lays. -/
def nth (j : Nat) : List UInt8 := full [UInt8.ofNat j, 1]
theorem length_nth (j : Nat) : (nth j).length = 512 := length_full _
theorem nth_inj {i j : Nat} (hi : i < 100) (hj : j < 100) (h : nth i = nth j) : i = j := by
  have h0 := congrArg (fun l => l[0]?) h
  simp only [nth, full, get_fullTo _ 512 0 (by omega), Option.some.injEq] at h0
  simp at h0
  have := congrArg UInt8.toNat h0
  simp [UInt8.toNat_ofNat'] at this
  omega
theorem nth_zeros (i : Nat) : nth i ≠ zeros := by
  intro h
  have h0 := congrArg (fun l => l[1]?) h
  simp only [nth, full, get_fullTo _ 512 1 (by omega), zeros, List.getElem?_replicate] at h0
  simp at h0
def Old (i : Nat) (l : List UInt8) : Prop := ∃ j, j < i ∧ l = nth j
/-- What the disk of DiskFuse is ahead of round i. -/
structure FInv (after : Int) (i n : Nat) (s : S) : Prop where
  n3 : s.n = 3
  up : s.down = false
  fu : s.fused = true
  le : s.left = after - i
  sf : ∀ k l, s.safe k = some l → Old i l
  wt : ∀ x ∈ s.wait, Old i x.2
  ln : s.wait.length = n
theorem Old.succ {i : Nat} {l : List UInt8} (h : Old i l) : Old (i + 1) l := by
  obtain ⟨j, hj, e⟩ := h
  exact ⟨j, by omega, e⟩
theorem Old.self (i : Nat) : Old (i + 1) (nth i) := ⟨i, Nat.lt_succ_self i, Eq.refl _⟩
section
variable {after : Int} {i n : Nat} {s : S}
theorem FInv.burn (h : FInv after i n s) (hi : (i : Int) < after) : s.burn = { s with left := after - (i + 1 : Nat) } := by
  unfold S.burn
  rw [if_neg (by simp [h.fu]), if_neg (by rw [h.le]; omega), h.le]
  congr 1
  omega
theorem FInv.die (h : FInv after i n s) (hi : (i : Int) = after) : s.burn = { s with down := true } := by
  unfold S.burn
  rw [if_neg (by simp [h.fu]), if_pos (by rw [h.le]; omega)]
theorem FInv.wcode (h : FInv after i n s) (hi : (i : Int) < after) (k : Int) (hk : s.has k = true) : s.wcode k 512 = 0 := by
  unfold S.wcode
  rw [h.burn hi, if_neg (by simp [hk]), if_neg (by omega), if_neg (by simp [h.up]), if_neg (by simp [h.up])]
theorem FInv.wcode_die (h : FInv after i n s) (hi : (i : Int) = after) (k : Int) (hk : s.has k = true) : s.wcode k 512 = 3 := by
  unfold S.wcode
  rw [h.die hi, if_neg (by simp [hk]), if_neg (by omega), if_neg (by simp [h.up]), if_pos rfl]
theorem FInv.write (h : FInv after i n s) (hi : (i : Int) < after) (k : Int) (hk : s.has k = true) : FInv after (i + 1) (n + 1) (s.write k (nth i)) := by
  unfold S.write
  rw [h.burn hi, if_neg (by simp [hk]), if_neg (by rw [length_nth]; omega), if_neg (by simp [h.up])]
  refine ⟨h.n3, h.up, h.fu, rfl, fun k l hl => (h.sf k l hl).succ, fun x hx => ?_, ?_⟩
  · rcases List.mem_append.1 hx with hx | hx
    · exact (h.wt x hx).succ
    · have e : x = (k, nth i) := List.mem_singleton.1 hx
      subst e
      dsimp only
      exact Old.self i
  · simp [S.put, h.ln]
theorem FInv.write_die (h : FInv after i n s) (hi : (i : Int) = after) (k : Int) (hk : s.has k = true) : s.write k (nth i) = { s with down := true, wait := s.wait ++ [(k, nth i)] } := by
  unfold S.write
  rw [h.die hi, if_neg (by simp [hk]), if_neg (by rw [length_nth]; omega), if_neg (by simp [h.up])]
  rfl
theorem FInv.fcode (h : FInv after i n s) (hi : (i : Int) < after) : s.fcode = 0 := by
  unfold S.fcode
  rw [h.burn hi, if_neg (by simp [h.up]), if_neg (by simp [h.up])]
theorem FInv.fcode_die (h : FInv after i n s) (hi : (i : Int) = after) : s.fcode = 3 := by
  unfold S.fcode
  rw [h.die hi, if_neg (by simp [h.up]), if_pos rfl]
theorem lastFrom_mem (k : Int) : ∀ (l : List (Int × List UInt8)) (acc : Option (List UInt8)) (b : List UInt8), lastFrom k l acc = some b → acc = some b ∨ ∃ x ∈ l, x.2 = b
  | [], acc, b, h => .inl h
  | y :: r, acc, b, h => by
    rw [lastFrom] at h
    rcases lastFrom_mem k r _ b h with h1 | ⟨x, hx, e⟩
    · split at h1
      · right; injection h1 with h1; exact ⟨y, by simp, h1⟩
      · exact .inl h1
    · exact .inr ⟨x, by simp [hx], e⟩
theorem FInv.flush (h : FInv after i n s) (hi : (i : Int) < after) : FInv after (i + 1) 0 s.flush := by
  unfold S.flush
  rw [h.burn hi, if_neg (by simp [h.up]), if_neg (by simp [h.up])]
  refine ⟨h.n3, h.up, h.fu, rfl, fun k l hl => ?_, by simp [S.done], rfl⟩
  rcases lastFrom_mem k s.wait (s.safe k) l hl with h1 | ⟨x, hx, e⟩
  · exact (h.sf k l h1).succ
  · exact e ▸ (h.wt x hx).succ
theorem FInv.flush_die (h : FInv after i n s) (hi : (i : Int) = after) : s.flush = { s with down := true } := by
  unfold S.flush
  rw [h.die hi, if_neg (by simp [h.up]), if_pos rfl]
theorem fcode_down {s : S} (h : s.down = true) : s.fcode = 3 := by unfold S.fcode; rw [if_pos h]
theorem flush_down {s : S} (h : s.down = true) : s.flush = s := by unfold S.flush; rw [if_pos h]
end
theorem restart_get_true (s : S) (k : Int) (b : List UInt8) (n : Nat) (hn : n = (s.wait ++ [(k, b)]).length) : (({ s with down := true, wait := s.wait ++ [(k, b)] } : S).restart (List.replicate n true)).get k = b := by
  subst hn
  simp only [S.get, S.restart, kept_true, lastW, lastFrom]
  rw [doneOver_snoc]
  simp
theorem restart_get_false (s : S) (k : Int) (b : List UInt8) (n : Nat) : (({ s with down := true, wait := s.wait ++ [(k, b)] } : S).restart (List.replicate n false)).get k = (s.safe k).getD zeros := by
  simp only [S.get, S.restart, kept_false, lastW, lastFrom, doneOver]
theorem FInv.unlike {after : Int} {i n : Nat} {s : S} (h : FInv after i n s) (hi : i < 100) (k : Int) : (s.safe k).getD zeros ≠ nth i := by
  cases hs : s.safe k with
  | none => exact fun e => nth_zeros i e.symm
  | some l =>
    obtain ⟨j, hj, e⟩ := h.sf k l hs
    intro e2
    have : nth j = nth i := by rw [← e]; exact e2
    have := nth_inj (by omega) hi this
    omega
theorem FInv.len {after : Int} {i n : Nat} {s : S} (h : FInv after i n s) (k : Int) : ((s.safe k).getD zeros).length = 512 := by
  cases hs : s.safe k with
  | none => exact length_zeros
  | some l =>
    obtain ⟨j, _, e⟩ := h.sf k l hs
    have hl : l.length = 512 := by rw [e]; exact length_nth j
    exact hl
end Dk
namespace Dk
theorem str_bytes (a b : List UInt8) : ((⟨a.toArray⟩ : ByteArray).toList == (⟨b.toArray⟩ : ByteArray).toList) = decide (a = b) := by
  rw [ByteArray.toList_eq, ByteArray.toList_eq]
  by_cases h : a = b
  · subst h; simp
  · rw [decide_eq_false h]
    exact beq_eq_false_iff_ne.2 h
theorem conv512 {w : World} {g e : Nat} {l : List UInt8} (h : Row w g e l) (hl : l.length = 512) : (convert 34 9 (.slice (some ⟨g, 0, none⟩) 512 512)).run Try.prog w = .ok (.string ⟨l.toArray⟩) w := by
  have := conv (c := 512) h.bts
  rwa [hl] at this
theorem wcode_far {s : S} {i : Int} {n : Nat} (h : s.has i = false) : s.wcode i n = 1 := by unfold S.wcode; rw [if_pos h]
theorem wcode_short {s : S} {i : Int} (h : s.has i = true) : s.wcode i 0 = 2 := by unfold S.wcode; rw [if_neg (by simp [h]), if_pos (by omega)]
theorem has_of {s : S} {i : Int} (h0 : 0 ≤ i) (h1 : i < s.n) : s.has i = true := by unfold S.has; rw [decide_eq_true h0, decide_eq_true h1]; rfl
theorem hasn_of {s : S} {i : Int} (h1 : ¬ (0 ≤ i ∧ i < s.n)) : s.has i = false := by
  unfold S.has
  by_cases h0 : 0 ≤ i
  · rw [decide_eq_true h0, decide_eq_false (fun h => h1 ⟨h0, h⟩)]; rfl
  · rw [decide_eq_false h0]; rfl
end Dk
theorem fuse_ok {w0 w : World} {X : Nat → Prop} {p : Nat} {s : Dk.S} (k : Int) (h : Dk.Live w0 X w p s) (hk : ¬ k < 0) (hd : s.down = false) :
    Calls Try.prog 24 #[.pointer (some ⟨p, 0, none⟩), .int .i64 k] w fun e w' => e = .returned (.int .i64 0) ∧ Hid (Dk.Live w0 X w' p { s with fused := true, left := k }) ∧ Hid (Dk.Same X w w') := by
  have := fuse_live k h
  rwa [if_neg hk, if_neg (by simp [hd]), if_neg hk, if_neg (by simp [hd])] at this
theorem fuse_down {w0 w : World} {X : Nat → Prop} {p : Nat} {s : Dk.S} {k : Int} (h : Dk.Live w0 X w p s) (hk : ¬ k < 0) (hd : s.down = true) :
    Calls Try.prog 24 #[.pointer (some ⟨p, 0, none⟩), .int .i64 k] w fun e w' => e = .returned (.int .i64 3) ∧ Hid (Dk.Live w0 X w' p s) ∧ Hid (Dk.Same X w w') := by
  have := fuse_live k h
  rwa [if_neg hk, if_pos hd, if_neg hk, if_pos hd] at this
theorem flush_down {w0 w : World} {X : Nat → Prop} {p : Nat} {s : Dk.S} (h : Dk.Live w0 X w p s) (hd : s.down = true) (hw : s.wait.length < 100000) (hl : 0 ≤ s.left) (hl2 : s.left ≤ 9223372036854775807) :
    Calls Try.prog 23 #[.pointer (some ⟨p, 0, none⟩)] w fun e w' => e = .returned (.int .i64 3) ∧ Hid (Dk.Live w0 X w' p s) ∧ Hid (Dk.Same X w w') := by
  have := flush_live h hw hl hl2
  rwa [Dk.fcode_down hd, Dk.flush_down hd] at this
theorem restart_len {w0 w : World} {X : Nat → Prop} {p : Nat} {s : Dk.S} {A : Option Addr} {m : List Bool} {c n : Nat} (h : Dk.Live w0 X w p s) (hb : Dk.Bls w (fun k => k < w0.heap.size ∨ X k) A m) (hn : m.length = n) (hw : s.wait.length < 100000) :
    Calls Try.prog 19 #[.pointer (some ⟨p, 0, none⟩), .slice A n c] w fun e w' => e = .returned noResult ∧ Hid (Dk.Live w0 X w' p (s.restart m)) ∧ Hid (Dk.Same X w w') := by
  subst hn
  exact restart_live h hb hw
theorem full_two {w0 w : World} {X : Nat → Prop} {p : Nat} {s : Dk.S} {x y : Int} {c : Nat} {fr : Nat × Nat} (h : Dk.Live w0 X w p s) (hx : 0 ≤ x ∧ x < 256) (hy : 0 ≤ y ∧ y < 256) :
    Calls Try.prog 15 #[.slice (some ⟨w.heap.size, 0, none⟩) 2 c] (w.alloc (.cells #[.int .u8 x, .int .u8 y] 5 fr)) fun e w' => e = .returned (.slice (some ⟨w.heap.size + 1, 0, none⟩) 512 512) ∧ Hid (Dk.Ready w0 X w' p s (w.heap.size + 1) (Dk.full [UInt8.ofNat x.toNat, UInt8.ofNat y.toNat])) ∧ Hid (Dk.Same X w w') := by
  refine full_lit (fr := fr) [UInt8.ofNat x.toNat, UInt8.ofNat y.toNat] h ?_ rfl (by simp)
  have : Dk.cells8 [UInt8.ofNat x.toNat, UInt8.ofNat y.toNat] = [.int .u8 x, .int .u8 y] := by
    simp only [Dk.cells8, Dk.cell8, List.map_cons, List.map_nil]
    rw [UInt8.toNat_ofNat', UInt8.toNat_ofNat', show x.toNat % 2 ^ 8 = x.toNat by omega, show y.toNat % 2 ^ 8 = y.toNat by omega, Int.toNat_of_nonneg hx.1, Int.toNat_of_nonneg hy.1]
  rw [this]
theorem full_nil' {w0 w : World} {X : Nat → Prop} {p : Nat} {s : Dk.S} (h : Dk.Live w0 X w p s) :
    Calls Try.prog 15 #[.slice none 0 0] w fun e w' => e = .returned (.slice (some ⟨w.heap.size, 0, none⟩) 512 512) ∧ Hid (Dk.Ready w0 X w' p s w.heap.size Dk.zeros) ∧ Hid (Dk.Same X w w') := by
  have := full_live (A := none) (l := []) (c := 0) (G := fun _ => False) h (fun h => by simp at h) (by simp)
  rwa [Dk.full_nil] at this
end Go.Proofs.Ytngpdjkeoodigaa
