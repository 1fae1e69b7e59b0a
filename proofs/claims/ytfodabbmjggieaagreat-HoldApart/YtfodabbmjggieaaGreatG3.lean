/- Contracts of the code and of the document that the walks lean on, part G3. -/
import Derived.Test.YtfodabbmjggieaaGreatG1
import Derived.Deep.MidRow
import Derived.Below
import Derived.Deep.QuietTactic
import Derived.BigQuiet
import Derived.Lib.Bytealg
import Derived.BigCall
import Derived.Deep.RegionHeld3
import Derived.Maps.AppendAt
import Derived.OwnWalk
import Derived.WalkArith
import Derived.Deep.Cut
import Derived.Deep.DeepCutAuto
import Derived.Carry
import Derived.WalkSpells
import Derived.Laws.IdiomStrings
namespace Go.Proofs.YtfodabbmjggieaaGreat
open Go.RowKit
set_option linter.unusedVariables false

namespace Pl
theorem ret_bool {a b : Bool} (h : a = b) : Ending.returned (.bool a) = .returned (.bool b) := by rw [h]
theorem ret_int {k : IntKind} {a b : Int} (h : a = b) : Ending.returned (.int k a) = .returned (.int k b) := by rw [h]
/-- A seat: its row and its letter. -/
abbrev S := Int × Int
def sv (s : S) : Value := .agg #[.int .i64 s.1, .int .u8 s.2]
/-- A plan. -/
structure P where
  fr : Int
  la : Int
  lt : ByteArray
  ex : List Int
  bl : List S
/-- A plan in memory. -/
structure R where
  p : P
  eA : Option Addr
  ec : Nat
  bA : Option Addr
  bc : Nat
def enc (r : R) : List Value := [.int .i64 r.p.fr, .int .i64 r.p.la, .string r.p.lt, .slice r.eA r.p.ex.length r.ec, .slice r.bA r.p.bl.length r.bc]
def pv (r : R) : Value := .agg #[.int .i64 r.p.fr, .int .i64 r.p.la, .string r.p.lt, .slice r.eA r.p.ex.length r.ec, .slice r.bA r.p.bl.length r.bc]
def gI (l : List Int) (k : Nat) : Int := l.getD k 0
def gR (l : List S) (k : Nat) : Int := (l.getD k (0, 0)).1
def gC (l : List S) (k : Nat) : Int := (l.getD k (0, 0)).2
theorem gS (l : List S) (k : Nat) (h : k < l.length) : l[k] = (gR l k, gC l k) := by
  simp [gR, gC, List.getD_eq_getElem?_getD, List.getElem?_eq_getElem h]
theorem gI_get (l : List Int) (k : Nat) (h : k < l.length) : l[k] = gI l k := by
  simp [gI, List.getD_eq_getElem?_getD, List.getElem?_eq_getElem h]
/-- The slice at A holds the numbers l. -/
def Ints (w : World) (B : Nat) (A : Option Addr) (l : List Int) : Prop :=
  0 < l.length → ∃ b off, A = some ⟨b, off, none⟩ ∧ b < B ∧ ∀ j, j < l.length → w.cell? ⟨b, off + j, none⟩ = some (.int .i64 (gI l j))
/-- The slice at A holds the seats l. -/
def Sts (w : World) (B : Nat) (A : Option Addr) (l : List S) : Prop :=
  0 < l.length → ∃ b off, A = some ⟨b, off, none⟩ ∧ b < B ∧ ∀ j, j < l.length → w.cell? ⟨b, off + j * 2, none⟩ = some (.int .i64 (gR l j)) ∧ w.cell? ⟨b, off + j * 2 + 1, none⟩ = some (.int .u8 (gC l j))
theorem Ints.kept {w w' : World} {B : Nat} {A : Option Addr} {l : List Int} (h : Ints w B A l) (hb : ∀ k, k < B → w'.heap[k]? = w.heap[k]?) : Ints w' B A l := fun hl => by
  obtain ⟨b, off, e, hB, hc⟩ := h hl
  exact ⟨b, off, e, hB, fun j hj => (World.cell?_of_block (w := w) (a := ⟨b, _, none⟩) (hb b hB)).trans (hc j hj)⟩
theorem Ints.below {w w' : World} {B B' : Nat} {A : Option Addr} {l : List Int} (h : Ints w B A l) (hb : Below B' w w') (hB : B ≤ B') : Ints w' B A l := h.kept fun k hk => hb.block k (by omega)
theorem Ints.more {w : World} {B B' : Nat} {A : Option Addr} {l : List Int} (h : Ints w B A l) (hB : B ≤ B') : Ints w B' A l := fun hl => by
  obtain ⟨b, off, e, hb, hc⟩ := h hl
  exact ⟨b, off, e, by omega, hc⟩
theorem Sts.kept {w w' : World} {B : Nat} {A : Option Addr} {l : List S} (h : Sts w B A l) (hb : ∀ k, k < B → w'.heap[k]? = w.heap[k]?) : Sts w' B A l := fun hl => by
  obtain ⟨b, off, e, hB, hc⟩ := h hl
  exact ⟨b, off, e, hB, fun j hj => ⟨(World.cell?_of_block (w := w) (a := ⟨b, _, none⟩) (hb b hB)).trans (hc j hj).1, (World.cell?_of_block (w := w) (a := ⟨b, _, none⟩) (hb b hB)).trans (hc j hj).2⟩⟩
theorem Sts.below {w w' : World} {B B' : Nat} {A : Option Addr} {l : List S} (h : Sts w B A l) (hb : Below B' w w') (hB : B ≤ B') : Sts w' B A l := h.kept fun k hk => hb.block k (by omega)
theorem Sts.more {w : World} {B B' : Nat} {A : Option Addr} {l : List S} (h : Sts w B A l) (hB : B ≤ B') : Sts w B' A l := fun hl => by
  obtain ⟨b, off, e, hb, hc⟩ := h hl
  exact ⟨b, off, e, by omega, hc⟩
theorem below_drewN {B : Nat} {a w : World} (h : Below B a w) (n : Nat) : Below B a (w.drewN n) := ⟨h.os, h.tape, h.output, h.size, h.block⟩
theorem bcell {W w1 : World} (hb : Below W.heap.size W w1) : (∀ b o, b < W.heap.size → w1.cell? ⟨b, o, none⟩ = W.cell? ⟨b, o, none⟩) ∧ (∀ b o, b < W.heap.size → w1.frozen? ⟨b, o, none⟩ = W.frozen? ⟨b, o, none⟩) :=
  ⟨fun b o h => hb.cell (p := ⟨b, o, none⟩) h, fun b o h => hb.frozen (p := ⟨b, o, none⟩) h⟩
/-- What numbers and lengths a plan in memory may have. -/
structure Wf (r : R) : Prop where
  s : r.p.lt.size ≤ 9223372036854775807
  f0 : -9223372036854775808 ≤ r.p.fr
  f1 : r.p.fr ≤ 9223372036854775807
  l0 : -9223372036854775808 ≤ r.p.la
  l1 : r.p.la ≤ 9223372036854775807
  e : r.p.ex.length ≤ 9223372036854775807
  b : r.p.bl.length ≤ 9223372036854775807
  ec : r.p.ex.length ≤ r.ec
  bc : r.p.bl.length ≤ r.bc
  c : ∀ s ∈ r.p.bl, 0 ≤ s.2 ∧ s.2 ≤ 255
def inRow (p : P) (n : Int) : Bool := decide (p.fr ≤ n) && decide (n ≤ p.la)
def hasB (s : ByteArray) (c : Int) : Bool := (Cd.bs s).contains c
def place (p : P) (s : S) : Bool := inRow p s.1 && Cd.isL s.2 && hasB p.lt s.2
def lss (a b : S) : Bool := decide (a.1 < b.1) || (decide (a.1 = b.1) && decide (a.2 < b.2))
def rowsOk (p : P) : Bool := decide (1 ≤ p.fr) && decide (p.fr ≤ p.la) && decide (p.la ≤ 60)
theorem idx_nn (l : List UInt8) (c : UInt8) : (0 ≤ Lib.indexByte l c) ↔ c ∈ l := by
  induction l with
  | nil => simp [Lib.indexByte]
  | cons b l ih =>
    unfold Lib.indexByte
    have hg := Lib.indexByte_ge l c
    by_cases h : b = c
    · simp [h]
    · have h' : (b == c) = false := by simp [h]
      rw [h']
      by_cases h2 : Lib.indexByte l c = -1
      · rw [h2] at ih ⊢
        have : c ∉ l := fun hm => by have := ih.2 hm; omega
        simp only [beq_self_eq_true]
        simp [this, Ne.symm h]
      · have h2' : (Lib.indexByte l c == -1) = false := by simp [h2]
        rw [h2']
        have hc : c ∈ l := ih.1 (by omega)
        simp [hc]
        omega
theorem hasB_idx (s : ByteArray) (c : Int) (h0 : 0 ≤ c) (h1 : c ≤ 255) : hasB s c = decide (0 ≤ Lib.indexByte s.data.toList c.toNat.toUInt8) := by
  rw [Bool.eq_iff_iff, decide_eq_true_iff, idx_nn]
  unfold hasB
  rw [List.contains_iff_mem]
  unfold Cd.bs
  rw [List.mem_map]
  constructor
  · rintro ⟨b, hb, e⟩
    have : c.toNat.toUInt8 = b := by rw [← e]; simp
    rw [this]; exact hb
  · intro h
    refine ⟨_, h, ?_⟩
    rw [Nat.toUInt8_eq, UInt8.toNat_ofNat']
    omega
end Pl

theorem isLetter_any (c : Int) (w : World) : Calls Tryz.prog 118 #[.int .u8 c] w fun e w' => e = .returned (.bool (Cd.isL c)) ∧ w = w' := by
  go_enter Tryz.func118, Tryz.ntmps118
  go_wp2
  all_goals go_ret
  all_goals exact ⟨by simp [Cd.isL, *] <;> omega, rfl⟩
theorem hasRow_any (r : Pl.R) (n : Int) (w : World) : Calls Tryz.prog 119 #[Pl.pv r, .int .i64 n] w fun e w' => e = .returned (.bool (Pl.inRow r.p n)) ∧ Below w.heap.size w w' := by
  have HE : Hid (Pl.inRow r.p n = (decide (r.p.fr ≤ n) && decide (n ≤ r.p.la))) := show _ = _ by rfl
  obtain ⟨⟨fr, la, lt, ex, bl⟩, eA, ec, bA, bc⟩ := r
  simp only at HE ⊢
  unfold Pl.pv
  have hbe := (Below.refl w.heap.size w).alloc (Nat.le_refl _) (.cells #[.int .i64 fr, .int .i64 la, .string lt, .slice eA ex.length ec, .slice bA bl.length bc] 74)
  generalize Pl.inRow _ n = q at *
  by_cases h1 : fr ≤ n
  · go_enter Tryz.func119, Tryz.ntmps119
    go_wp2
    go_ret
    exact ⟨Pl.ret_bool (by rw [HE.out]; simp [h1]), hbe⟩
  · go_enter Tryz.func119, Tryz.ntmps119
    go_wp2
    go_ret
    exact ⟨Pl.ret_bool (by rw [HE.out, decide_eq_false (p := fr ≤ n) (by omega)]; rfl), hbe⟩
theorem below_any (a b : Pl.S) (w : World) : Calls Tryz.prog 121 #[Pl.sv a, Pl.sv b] w fun e w' => e = .returned (.bool (Pl.lss a b)) ∧ Below w.heap.size w w' := by
  obtain ⟨a1, a2⟩ := a
  obtain ⟨b1, b2⟩ := b
  have HE : Hid (Pl.lss (a1, a2) (b1, b2) = (decide (a1 < b1) || (decide (a1 = b1) && decide (a2 < b2)))) := show _ = _ by rfl
  unfold Pl.sv
  have hbe := ((Below.refl w.heap.size w).alloc (Nat.le_refl _) (.cells #[.int .i64 a1, .int .u8 a2] 37)).alloc (by simp) (.cells #[.int .i64 b1, .int .u8 b2] 37)
  generalize Pl.lss _ _ = q at *
  by_cases h1 : a1 < b1
  · go_enter Tryz.func121, Tryz.ntmps121
    go_wp2
    go_ret
    exact ⟨Pl.ret_bool (by rw [HE.out]; simp [h1]), hbe⟩
  · by_cases h2 : a1 = b1
    · have HN : Hid (q = decide (a2 < b2)) := show _ = _ by rw [HE.out, decide_eq_false h1, decide_eq_true h2]; simp
      subst h2
      clear HE h1
      go_enter Tryz.func121, Tryz.ntmps121
      go_wp2
      go_ret
      exact ⟨Pl.ret_bool HN.out.symm, hbe⟩
    · have HN : Hid (q = false) := show _ = _ by rw [HE.out, decide_eq_false h1, decide_eq_false h2]; rfl
      clear HE
      go_enter Tryz.func121, Tryz.ntmps121
      go_wp2
      go_ret
      exact ⟨Pl.ret_bool HN.out.symm, hbe⟩
theorem rightRows_any (r : Pl.R) (w : World) : Calls Tryz.prog 87 #[Pl.pv r] w fun e w' => e = .returned (.bool (Pl.rowsOk r.p)) ∧ Below w.heap.size w w' := by
  have HE : Hid (Pl.rowsOk r.p = (decide (1 ≤ r.p.fr) && decide (r.p.fr ≤ r.p.la) && decide (r.p.la ≤ 60))) := show _ = _ by rfl
  obtain ⟨⟨fr, la, lt, ex, bl⟩, eA, ec, bA, bc⟩ := r
  simp only at HE ⊢
  unfold Pl.pv
  have hbe := (Below.refl w.heap.size w).alloc (Nat.le_refl _) (.cells #[.int .i64 fr, .int .i64 la, .string lt, .slice eA ex.length ec, .slice bA bl.length bc] 74)
  generalize Pl.rowsOk _ = q at *
  by_cases h1 : 1 ≤ fr
  · by_cases h2 : fr ≤ la
    · go_enter Tryz.func87, Tryz.ntmps87
      go_wp2
      go_ret
      exact ⟨Pl.ret_bool (by rw [HE.out, decide_eq_true h1, decide_eq_true h2]; rfl), hbe⟩
    · go_enter Tryz.func87, Tryz.ntmps87
      go_wp2
      go_ret
      exact ⟨Pl.ret_bool (by rw [HE.out, decide_eq_true h1, decide_eq_false (p := fr ≤ la) (by omega)]; rfl), hbe⟩
  · go_enter Tryz.func87, Tryz.ntmps87
    go_wp2
    go_ret
    exact ⟨Pl.ret_bool (by rw [HE.out, decide_eq_false (p := 1 ≤ fr) (by omega)]; rfl), hbe⟩
set_option maxRecDepth 20000 in
theorem litIndex_any (s : ByteArray) (c : Int) (w : World) : Calls Tryz.prog 143 #[.string s, .int .u8 c] w fun e w' => e = .returned (.int .i64 (Lib.indexByte s.data.toList c.toNat.toUInt8)) ∧ w' = w := by
  go_enter Tryz.func143, Tryz.ntmps143
  go_wp2
  rw [run_callFunc_extern Tryz.func144 (by kernel_rfl) (by kernel_rfl) (by kernel_rfl) (e := Extern.BytealgIndexByte.indexByte) (by kernel_rfl), Lib.run_indexByteString]
  simp only [Result.andThen]
  rw [Oper.upon_value]
  go_wp2
  go_ret
  exact ⟨rfl, rfl⟩
theorem indexByte_any (s : ByteArray) (c : Int) (w : World) : Calls Tryz.prog 137 #[.string s, .int .u8 c] w fun e w' => e = .returned (.int .i64 (Lib.indexByte s.data.toList c.toNat.toUInt8)) ∧ w' = w := by
  go_enter Tryz.func137, Tryz.ntmps137
  go_wp2_with (go_at_call 143; refine (litIndex_any _ _ _).mono ?_; rintro e w' ⟨rfl, rfl⟩)
  go_ret
  exact ⟨rfl, rfl⟩
set_option maxHeartbeats 1000000 in
theorem hasPlace_any (r : Pl.R) (s : Pl.S) (w : World) (h0 : 0 ≤ s.2) (h1 : s.2 ≤ 255) : Calls Tryz.prog 120 #[Pl.pv r, Pl.sv s] w fun e w' => e = .returned (.bool (Pl.place r.p s)) ∧ Below w.heap.size w w' := by
  have HE : Hid (Pl.place r.p s = (Pl.inRow r.p s.1 && Cd.isL s.2 && decide (0 ≤ Lib.indexByte r.p.lt.data.toList s.2.toNat.toUInt8))) := show _ = _ by rw [Pl.place, Pl.hasB_idx _ _ h0 h1]
  have HR := Lib.hid (fun w => hasRow_any r s.1 w)
  have HI := Lib.hid (fun w => indexByte_any r.p.lt s.2 w)
  have HL := Lib.hid (fun w => isLetter_any s.2 w)
  obtain ⟨s1, s2⟩ := s
  obtain ⟨⟨fr, la, lt, ex, bl⟩, eA, ec, bA, bc⟩ := r
  simp only at HE HR HI HL ⊢
  generalize Pl.inRow _ s1 = q1 at *
  generalize Cd.isL s2 = q2 at *
  generalize Lib.indexByte lt.data.toList s2.toNat.toUInt8 = q3 at *
  generalize Pl.place _ _ = q at *
  unfold Pl.sv
  unfold Pl.pv at *
  simp only at HR ⊢
  obtain ⟨w0, ew0⟩ : ∃ w0, w0 = (w.alloc (.cells #[.int .i64 fr, .int .i64 la, .string lt, .slice eA ex.length ec, .slice bA bl.length bc] 74)).alloc (.cells #[.int .i64 s1, .int .u8 s2] 37) := ⟨_, rfl⟩
  have hbe : Hid (Below w.heap.size w w0) := by rw [ew0]; exact ((Below.refl w.heap.size w).alloc (Nat.le_refl _) _).alloc (by simp) _
  have hq : w.heap.size + 1 < ((w.alloc (.cells #[.int .i64 fr, .int .i64 la, .string lt, .slice eA ex.length ec, .slice bA bl.length bc] 74)).alloc (.cells #[.int .i64 s1, .int .u8 s2] 37)).heap.size := by simp
  have hq0 : w.heap.size < ((w.alloc (.cells #[.int .i64 fr, .int .i64 la, .string lt, .slice eA ex.length ec, .slice bA bl.length bc] 74)).alloc (.cells #[.int .i64 s1, .int .u8 s2] 37)).heap.size := by simp; omega
  cases q1
  · go_enter Tryz.func120, Tryz.ntmps120
    go_wp2_with (go_at_call 119; refine (HR.out _).mono ?_; rintro e w1 ⟨rfl, hb1⟩; obtain ⟨hc1, hf1⟩ := Pl.bcell hb1)
    go_ret
    exact ⟨Pl.ret_bool (by rw [HE.out]; rfl), hbe.out.trans (by rw [ew0]; exact hb1.mono (by simp; omega))⟩
  · cases q2
    · go_enter Tryz.func120, Tryz.ntmps120
      go_wp2_with (first
        | (go_at_call 119; refine (HR.out _).mono ?_; rintro e w1 ⟨rfl, hb1⟩; obtain ⟨hc1, hf1⟩ := Pl.bcell hb1)
        | (go_at_call 118; refine (HL.out _).mono ?_; rintro e w2 ⟨rfl, rfl⟩))
      go_ret
      exact ⟨Pl.ret_bool (by rw [HE.out]; rfl), hbe.out.trans (by rw [ew0]; exact hb1.mono (by simp; omega))⟩
    · go_enter Tryz.func120, Tryz.ntmps120
      go_wp2_with (first
        | (go_at_call 119; refine (HR.out _).mono ?_; rintro e w1 ⟨rfl, hb1⟩; obtain ⟨hc1, hf1⟩ := Pl.bcell hb1)
        | (go_at_call 118; refine (HL.out _).mono ?_; rintro e w2 ⟨rfl, rfl⟩)
        | (go_at_call 137; refine (HI.out _).mono ?_; rintro e w2 ⟨rfl, rfl⟩))
      go_ret
      exact ⟨Pl.ret_bool (by rw [HE.out]; rfl), hbe.out.trans (by rw [ew0]; exact hb1.mono (by simp; omega))⟩
end Go.Proofs.YtfodabbmjggieaaGreat
namespace Go.Proofs.YtfodabbmjggieaaGreat
open Go.RowKit
set_option linter.unusedVariables false

namespace Pl
/-- Are these letters, behind n of them, the greatest g, a point ahead or not, right to their end? -/
def lf : List Int → Nat → Int → Bool → Bool
  | [], _, _, a => !a
  | c :: l, n, g, a => if c = 46 then (if a then false else lf l n g true) else if Cd.isL c && decide (g < c) && decide (n ≠ 10) then lf l (n + 1) c false else false
def lettersOk (s : ByteArray) : Bool := lf (Cd.bs s) 0 0 true
theorem drop_bt (s : ByteArray) (k : Nat) (h : k < s.size) : (Cd.bs s).drop k = Cd.bt s k :: (Cd.bs s).drop (k + 1) := by
  have hl : k < (Cd.bs s).length := by rw [Cd.length_bs]; exact h
  rw [List.drop_eq_getElem_cons hl]
  congr 1
  unfold Cd.bt
  rw [List.getD_eq_getElem?_getD, List.getElem?_eq_getElem hl]
  rfl
theorem drop_end (s : ByteArray) (k : Nat) (h : s.size ≤ k) : (Cd.bs s).drop k = [] := by
  rw [List.drop_eq_nil_iff, Cd.length_bs]; exact h
def exOk (p : P) (k : Nat) : Bool := inRow p (gI p.ex k) && (decide (k = 0) || decide (gI p.ex (k - 1) < gI p.ex k))
def exitsOk (p : P) : Bool := (List.range p.ex.length).all (exOk p)
def blOk (p : P) (k : Nat) : Bool := place p (gR p.bl k, gC p.bl k) && (decide (k = 0) || lss (gR p.bl (k - 1), gC p.bl (k - 1)) (gR p.bl k, gC p.bl k))
def blockedOk (p : P) : Bool := decide (p.bl.length ≤ 40) && (List.range p.bl.length).all (blOk p)
def right (p : P) : Bool := rowsOk p && lettersOk p.lt && exitsOk p && blockedOk p
def code (p : P) : Int := if right p then 0 else 4
theorem range_no {n k : Nat} {f : Nat → Bool} (h : k < n) (hk : f k = false) : (List.range n).all f = false := by
  rw [List.all_eq_false]
  exact ⟨k, by simpa using h, by simp [hk]⟩
theorem range_yes {n : Nat} {f : Nat → Bool} (h : ∀ j, j < n → f j = true) : (List.range n).all f = true := by
  simp only [List.all_eq_true, List.mem_range]
  exact h
end Pl

set_option maxHeartbeats 1000000 in
theorem rightLetters_any (s : ByteArray) (w : World) (hs : s.size ≤ 9223372036854775807) :
    Calls Tryz.prog 88 #[.string s] w fun e w' => e = .returned (.bool (Pl.lettersOk s)) ∧ w = w' := by
  have hb := Cd.get_bt s
  have H0 : Hid (Pl.lettersOk s = Pl.lf ((Cd.bs s).drop 0) 0 0 true) := show _ = _ by rfl
  generalize Pl.lettersOk s = res at *
  go_enter Tryz.func88, Tryz.ntmps88
  go_wp2
  go_loop [3, 4, 5, 10] (fun vn vg va i => ∃ (k n : Nat) (g : Int) (a : Bool), k ≤ s.size ∧ i = .int .i64 k ∧ vn = .int .i64 n ∧ vg = .int .u8 g ∧ va = .bool a ∧ n ≤ 10 ∧ Hid (res = Pl.lf ((Cd.bs s).drop k) n g a)) (fun _ _ _ i => s.size - (intOf i).toNat)
  case atStart => exact ⟨0, 0, 0, true, by omega, rfl, rfl, rfl, rfl, by omega, H0⟩
  case round =>
    obtain ⟨k, n, g, a, hk, rfl, rfl, rfl, rfl, hn, HK⟩ := hrel
    clear H0
    by_cases hlt : k < s.size
    · have hst := HK.out
      rw [Pl.drop_bt s k hlt] at hst
      unfold Pl.lf at hst
      by_cases hc : Cd.bt s k = 46
      · rw [if_pos hc] at hst
        cases a with
        | true =>
          have HN := Lib.hid hst
          clear hst HK
          go_wp2
          go_ret
          exact ⟨Pl.ret_bool HN.out.symm, rfl⟩
        | false =>
          have HN : Hid (res = Pl.lf ((Cd.bs s).drop (k + 1)) n g true) := hst
          clear hst HK
          go_wp2
          go_round
          case rel => exact ⟨k + 1, n, g, true, by omega, by go_num, rfl, rfl, rfl, hn, HN⟩
          case measure => simp [intOf]; omega
      · rw [if_neg hc] at hst
        cases hL : Cd.isL (Cd.bt s k) with
        | false =>
          rw [hL] at hst
          have HN : Hid (res = false) := hst
          clear hst HK
          go_wp2_with (go_at_call 118; refine (isLetter_any _ _).mono ?_; rintro e w' ⟨rfl, rfl⟩)
          go_ret
          exact ⟨Pl.ret_bool HN.out.symm, rfl⟩
        | true =>
          rw [hL] at hst
          have h65 : 65 ≤ Cd.bt s k := by simp [Cd.isL] at hL; exact hL.1
          clear hc
          by_cases hg : g < Cd.bt s k
          · by_cases h10 : n = 10
            · have HN : Hid (res = false) := by simp [h10] at hst; exact hst
              subst h10
              clear hst HK
              go_wp2_with (go_at_call 118; refine (isLetter_any _ _).mono ?_; rintro e w' ⟨rfl, rfl⟩)
              go_ret
              exact ⟨Pl.ret_bool HN.out.symm, rfl⟩
            · have HN : Hid (res = Pl.lf ((Cd.bs s).drop (k + 1)) (n + 1) (Cd.bt s k) false) := by simp [h10, hg] at hst; exact hst
              have h11 : n < 10 := by omega
              have h12 : ((n : Int) == 10) = false := by simp; omega
              have h13 : (Cd.bt s k == 46) = false := by simp; omega
              clear hst HK h10
              go_wp2_with (go_at_call 118; refine (isLetter_any _ _).mono ?_; rintro e w' ⟨rfl, rfl⟩)
              all_goals first
                | exact ⟨⟨k + 1, n + 1, _, false, by omega, by go_num, by go_num, rfl, rfl, by omega, HN⟩, by simp [intOf]; omega⟩
                | (exfalso; omega)
                | (go_round <;> first | exact ⟨k + 1, n + 1, _, false, by omega, by go_num, by go_num, rfl, rfl, by omega, HN⟩ | (simp [intOf]; omega))
          · have HN : Hid (res = false) := by simp [hg] at hst; exact hst
            clear hst HK
            go_wp2_with (go_at_call 118; refine (isLetter_any _ _).mono ?_; rintro e w' ⟨rfl, rfl⟩)
            go_ret
            exact ⟨Pl.ret_bool HN.out.symm, rfl⟩
    · have hst := HK.out
      rw [Pl.drop_end s k (by omega)] at hst
      have HN : Hid (res = !a) := hst
      clear hst HK
      go_wp2
      go_ret
      exact ⟨Pl.ret_bool HN.out.symm, rfl⟩

set_option maxHeartbeats 1000000 in
theorem rightExits_any (r : Pl.R) (B : Nat) (w : World) (hw : Pl.Wf r) (h : Pl.Ints w B r.eA r.p.ex) (hB : B ≤ w.heap.size) :
    Calls Tryz.prog 89 #[Pl.pv r] w fun e w' => e = .returned (.bool (Pl.exitsOk r.p)) ∧ Below w.heap.size w w' := by
  have HY : Hid ((∀ j, j < r.p.ex.length → Pl.exOk r.p j = true) → Pl.exitsOk r.p = true) := fun hk => Pl.range_yes hk
  have HNo : Hid (∀ k, k < r.p.ex.length → Pl.exOk r.p k = false → Pl.exitsOk r.p = false) := fun k => Pl.range_no
  have HO : Hid (∀ k, Pl.exOk r.p k = (Pl.inRow r.p (Pl.gI r.p.ex k) && (decide (k = 0) || decide (Pl.gI r.p.ex (k - 1) < Pl.gI r.p.ex k)))) := fun _ => rfl
  have HR := Lib.hid (fun n w => hasRow_any r n w)
  have hel := hw.e
  generalize Pl.exitsOk r.p = res at *
  generalize Pl.exOk r.p = ok at *
  generalize hir : Pl.inRow r.p = ir at *
  clear hir hw
  obtain ⟨⟨fr, la, lt, ex, bl⟩, eA, ec, bA, bc⟩ := r
  unfold Pl.pv at *
  simp only at *
  have HI := Lib.hid h
  clear h
  obtain ⟨w1, ew1⟩ : ∃ w1, w1 = w.alloc (.cells #[.int .i64 fr, .int .i64 la, .string lt, .slice eA ex.length ec, .slice bA bl.length bc] 74) := ⟨_, rfl⟩
  have hb0 : Below w.heap.size w w1 := by rw [ew1]; exact (Below.refl w.heap.size w).alloc (Nat.le_refl _) _
  have hz1 : w.heap.size < w1.heap.size := by rw [ew1]; simp
  have p0 : w1.cell? ⟨w.heap.size, 0, none⟩ = some (.int .i64 fr) := by rw [ew1]; exact (cell_of_row _ _ _ _ _ _ (heap_alloc_new w _)).trans rfl
  have p1 : w1.cell? ⟨w.heap.size, 1, none⟩ = some (.int .i64 la) := by rw [ew1]; exact (cell_of_row _ _ _ _ _ _ (heap_alloc_new w _)).trans rfl
  have p2 : w1.cell? ⟨w.heap.size, 2, none⟩ = some (.string lt) := by rw [ew1]; exact (cell_of_row _ _ _ _ _ _ (heap_alloc_new w _)).trans rfl
  have p3 : w1.cell? ⟨w.heap.size, 3, none⟩ = some (.slice eA ex.length ec) := by rw [ew1]; exact (cell_of_row _ _ _ _ _ _ (heap_alloc_new w _)).trans rfl
  have p4 : w1.cell? ⟨w.heap.size, 4, none⟩ = some (.slice bA bl.length bc) := by rw [ew1]; exact (cell_of_row _ _ _ _ _ _ (heap_alloc_new w _)).trans rfl
  go_enter Tryz.func89, Tryz.ntmps89
  go_wp2
  rw [← ew1]
  clear ew1
  go_loopw [8] (fun i wr => ∃ k : Nat, k ≤ ex.length ∧ i = .int .i64 k ∧ Hid (∀ j, j < k → ok j = true) ∧ Below w1.heap.size w1 wr) (fun i _ => ex.length - (intOf i).toNat)
  case atStart => exact ⟨0, by omega, rfl, fun j hj => absurd hj (by omega), Below.refl _ _⟩
  case round =>
    obtain ⟨k, hk, rfl, HK, hbr⟩ := hrel
    by_cases hlt : k < ex.length
    · obtain ⟨b, off, hA, hb, hc⟩ := HI.out (by omega)
      subst hA
      have hbb : b < w1.heap.size := by omega
      have c0 : wr.cell? ⟨b, off + k, none⟩ = some (.int .i64 (Pl.gI ex k)) := ((hbr.cell (p := ⟨b, off + k, none⟩) hbb).trans (hb0.cell (p := ⟨b, off + k, none⟩) (by show b < _; omega))).trans (hc k hlt)
      have q0 := (hbr.cell (p := ⟨w.heap.size, 0, none⟩) hz1).trans p0
      have q1 := (hbr.cell (p := ⟨w.heap.size, 1, none⟩) hz1).trans p1
      have q2 := (hbr.cell (p := ⟨w.heap.size, 2, none⟩) hz1).trans p2
      have q3 := (hbr.cell (p := ⟨w.heap.size, 3, none⟩) hz1).trans p3
      have q4 := (hbr.cell (p := ⟨w.heap.size, 4, none⟩) hz1).trans p4
      have hon := HO.out k
      have hno := HNo.out k hlt
      have HRk := Lib.hid (HR.out (Pl.gI ex k) wr)
      cases hL : ir (Pl.gI ex k) with
      | false =>
        have HN := Lib.hid (hno (by rw [hon, hL]; rfl))
        rw [hL] at HRk
        clear hno hon
        go_wp2_with (go_at_call 119; refine HRk.out.mono ?_; rintro e w2 ⟨rfl, hb2⟩)
        go_ret
        exact ⟨Pl.ret_bool HN.out.symm, hb0.trans ((hbr.trans (hb2.mono hbr.size)).mono (by omega))⟩
      | true =>
        rw [hL] at HRk hon
        by_cases h0 : k = 0
        · have HN : Hid (∀ j, j < k + 1 → ok j = true) := fun j hj => by
            rw [show j = k by omega, hon, decide_eq_true h0]; rfl
          have hd : decide (0 < (k : Int)) = false := by simp; omega
          have hd2 : decide (0 < k) = false := by simp; omega
          clear hno hon h0
          go_wp2_with (go_at_call 119; refine HRk.out.mono ?_; rintro e w2 ⟨rfl, hb2⟩)
          go_roundw
          case rel => exact ⟨k + 1, by omega, by go_num, HN, hbr.trans (hb2.mono hbr.size)⟩
          case measure => simp [intOf]; omega
        · rw [decide_eq_false h0] at hon
          obtain ⟨m, hm⟩ : ∃ m, k - 1 = m := ⟨_, rfl⟩
          rw [hm] at hon
          have hm2 : m < ex.length := by omega
          have cm : wr.cell? ⟨b, off + m, none⟩ = some (.int .i64 (Pl.gI ex m)) := ((hbr.cell (p := ⟨b, off + m, none⟩) hbb).trans (hb0.cell (p := ⟨b, off + m, none⟩) (by show b < _; omega))).trans (hc m hm2)
          have hw1 : (k : Int) - 1 = (m : Int) := by omega
          have hw2 : IntKind.i64.wrap (m : Int) = (m : Int) := IntWalk.i64_in _ (by omega)
          by_cases h5 : Pl.gI ex m < Pl.gI ex k
          · have HN : Hid (∀ j, j < k + 1 → ok j = true) := fun j hj => by
              rcases Nat.lt_or_ge j k with hj' | hj'
              · exact HK.out j hj'
              · rw [show j = k by omega, hon, decide_eq_true h5]; rfl
            clear hno hon
            go_wp2_with (go_at_call 119; refine HRk.out.mono ?_; rintro e w2 ⟨rfl, hb2⟩; have k2 := hbr.trans (hb2.mono hbr.size); have s3 := (hb2.cell (p := ⟨w.heap.size, 3, none⟩) (by have := hbr.size; show w.heap.size < _; omega)).trans q3; have sm := (hb2.cell (p := ⟨b, off + m, none⟩) (by have := hbr.size; show b < _; omega)).trans cm)
            go_roundw
            case rel => exact ⟨k + 1, by omega, by go_num, HN, k2⟩
            case measure => simp [intOf]; omega
          · have HN := Lib.hid (hno (by rw [hon, decide_eq_false h5]; rfl))
            clear hno hon
            go_wp2_with (go_at_call 119; refine HRk.out.mono ?_; rintro e w2 ⟨rfl, hb2⟩; have k2 := hbr.trans (hb2.mono hbr.size); have s3 := (hb2.cell (p := ⟨w.heap.size, 3, none⟩) (by have := hbr.size; show w.heap.size < _; omega)).trans q3; have sm := (hb2.cell (p := ⟨b, off + m, none⟩) (by have := hbr.size; show b < _; omega)).trans cm)
            go_ret
            exact ⟨Pl.ret_bool HN.out.symm, hb0.trans (k2.mono (by omega))⟩
    · go_wp2
      go_ret
      exact ⟨Pl.ret_bool (HY.out (fun j hj => HK.out j (by omega))).symm, hb0.trans (hbr.mono (by omega))⟩
end Go.Proofs.YtfodabbmjggieaaGreat
namespace Go.Proofs.YtfodabbmjggieaaGreat
open Go.RowKit
set_option linter.unusedVariables false

namespace Pl
/-- The cells of a plan at g. -/
def Pc (r : R) (g : Nat) (w : World) : Prop :=
  w.cell? ⟨g, 0, none⟩ = some (.int .i64 r.p.fr) ∧ w.cell? ⟨g, 1, none⟩ = some (.int .i64 r.p.la) ∧ w.cell? ⟨g, 2, none⟩ = some (.string r.p.lt) ∧ w.cell? ⟨g, 3, none⟩ = some (.slice r.eA r.p.ex.length r.ec) ∧ w.cell? ⟨g, 4, none⟩ = some (.slice r.bA r.p.bl.length r.bc)
theorem Pc.new (r : R) (w : World) : Pc r w.heap.size (w.alloc (.cells #[.int .i64 r.p.fr, .int .i64 r.p.la, .string r.p.lt, .slice r.eA r.p.ex.length r.ec, .slice r.bA r.p.bl.length r.bc] 74)) :=
  have h := heap_alloc_new w (.cells #[.int .i64 r.p.fr, .int .i64 r.p.la, .string r.p.lt, .slice r.eA r.p.ex.length r.ec, .slice r.bA r.p.bl.length r.bc] 74)
  ⟨(cell_of_row _ _ _ _ _ _ h).trans rfl, (cell_of_row _ _ _ _ _ _ h).trans rfl, (cell_of_row _ _ _ _ _ _ h).trans rfl, (cell_of_row _ _ _ _ _ _ h).trans rfl, (cell_of_row _ _ _ _ _ _ h).trans rfl⟩
theorem Pc.below {r : R} {g B : Nat} {w w' : World} (h : Pc r g w) (hb : Below B w w') (hg : g < B) : Pc r g w' :=
  ⟨(hb.cell (p := ⟨g, 0, none⟩) hg).trans h.1, (hb.cell (p := ⟨g, 1, none⟩) hg).trans h.2.1, (hb.cell (p := ⟨g, 2, none⟩) hg).trans h.2.2.1, (hb.cell (p := ⟨g, 3, none⟩) hg).trans h.2.2.2.1, (hb.cell (p := ⟨g, 4, none⟩) hg).trans h.2.2.2.2⟩
/-- The cells of a seat at g, off. -/
def Sc (s : S) (g off : Nat) (w : World) : Prop := w.cell? ⟨g, off, none⟩ = some (.int .i64 s.1) ∧ w.cell? ⟨g, off + 1, none⟩ = some (.int .u8 s.2)
theorem Sc.new (s : S) (w : World) : Sc s w.heap.size 0 (w.alloc (.cells #[.int .i64 s.1, .int .u8 s.2] 37)) :=
  have h := heap_alloc_new w (.cells #[.int .i64 s.1, .int .u8 s.2] 37)
  ⟨(cell_of_row _ _ _ _ _ _ h).trans rfl, (cell_of_row _ _ _ _ _ _ h).trans rfl⟩
theorem Sc.below {s : S} {g off B : Nat} {w w' : World} (h : Sc s g off w) (hb : Below B w w') (hg : g < B) : Sc s g off w' :=
  ⟨(hb.cell (p := ⟨g, off, none⟩) hg).trans h.1, (hb.cell (p := ⟨g, off + 1, none⟩) hg).trans h.2⟩
end Pl

set_option maxHeartbeats 2000000 in
set_option maxRecDepth 20000 in
theorem rightBlocked_any (r : Pl.R) (B : Nat) (w : World) (hw : Pl.Wf r) (h : Pl.Sts w B r.bA r.p.bl) (hB : B ≤ w.heap.size) :
    Calls Tryz.prog 90 #[Pl.pv r] w fun e w' => e = .returned (.bool (Pl.blockedOk r.p)) ∧ Below w.heap.size w w' := by
  by_cases h40 : r.p.bl.length ≤ 40
  case neg =>
    have HN : Hid (Pl.blockedOk r.p = false) := show _ = _ by rw [Pl.blockedOk, decide_eq_false h40]; rfl
    have hel := hw.b
    obtain ⟨⟨fr, la, lt, ex, bl⟩, eA, ec, bA, bc⟩ := r
    unfold Pl.pv
    simp only at *
    have hbe := (Below.refl w.heap.size w).alloc (Nat.le_refl _) (.cells #[.int .i64 fr, .int .i64 la, .string lt, .slice eA ex.length ec, .slice bA bl.length bc] 74)
    go_enter Tryz.func90, Tryz.ntmps90
    go_wp2
    go_ret
    exact ⟨Pl.ret_bool HN.out.symm, hbe⟩
  have HY : Hid ((∀ j, j < r.p.bl.length → Pl.blOk r.p j = true) → Pl.blockedOk r.p = true) := fun hk => by rw [Pl.blockedOk, decide_eq_true h40, Pl.range_yes hk]; rfl
  have HNo : Hid (∀ k, k < r.p.bl.length → Pl.blOk r.p k = false → Pl.blockedOk r.p = false) := fun k hk hf => by rw [Pl.blockedOk, Pl.range_no hk hf, Bool.and_false]
  have HO : Hid (∀ k, Pl.blOk r.p k = (Pl.place r.p (Pl.gR r.p.bl k, Pl.gC r.p.bl k) && (decide (k = 0) || Pl.lss (Pl.gR r.p.bl (k - 1), Pl.gC r.p.bl (k - 1)) (Pl.gR r.p.bl k, Pl.gC r.p.bl k)))) := fun _ => rfl
  have HR : Hid (∀ k w, k < r.p.bl.length → Calls Tryz.prog 120 #[Pl.pv r, Pl.sv (Pl.gR r.p.bl k, Pl.gC r.p.bl k)] w fun e w' => e = .returned (.bool (Pl.place r.p (Pl.gR r.p.bl k, Pl.gC r.p.bl k))) ∧ Below w.heap.size w w') := fun k w hk => by
    have := hw.c (r.p.bl[k]) (List.getElem_mem hk)
    rw [Pl.gS _ _ hk] at this
    exact hasPlace_any r _ w this.1 this.2
  have HPN := Lib.hid (Pl.Pc.new r w)
  have hel := hw.b
  generalize Pl.blockedOk r.p = res at *
  generalize Pl.blOk r.p = ok at *
  generalize hir : Pl.place r.p = ir at *
  clear hir hw
  obtain ⟨⟨fr, la, lt, ex, bl⟩, eA, ec, bA, bc⟩ := r
  unfold Pl.pv at *
  unfold Pl.Pc at *
  unfold Pl.sv at *
  simp only at *
  have HI := Lib.hid h
  clear h
  obtain ⟨w1, ew1⟩ : ∃ w1, w1 = w.alloc (.cells #[.int .i64 fr, .int .i64 la, .string lt, .slice eA ex.length ec, .slice bA bl.length bc] 74) := ⟨_, rfl⟩
  have hb0 : Below w.heap.size w w1 := by rw [ew1]; exact (Below.refl w.heap.size w).alloc (Nat.le_refl _) _
  have hz1 : w.heap.size < w1.heap.size := by rw [ew1]; simp
  rw [← ew1] at HPN
  go_enter Tryz.func90, Tryz.ntmps90
  go_wp2
  rw [← ew1]
  clear ew1
  go_loopw [12] (fun i wr => ∃ k : Nat, k ≤ bl.length ∧ i = .int .i64 k ∧ Hid (∀ j, j < k → ok j = true) ∧ Below w1.heap.size w1 wr) (fun i _ => bl.length - (intOf i).toNat)
  case atStart => exact ⟨0, by omega, rfl, fun j hj => absurd hj (by omega), Below.refl _ _⟩
  case round =>
    obtain ⟨k, hk, rfl, HK, hbr⟩ := hrel
    by_cases hlt : k < bl.length
    · obtain ⟨b, off, hA, hb, hc⟩ := HI.out (by omega)
      subst hA
      have hbb : b < w1.heap.size := by omega
      have cc : ∀ j, j < bl.length → wr.cell? ⟨b, off + j * 2, none⟩ = some (.int .i64 (Pl.gR bl j)) ∧ wr.cell? ⟨b, off + j * 2 + 1, none⟩ = some (.int .u8 (Pl.gC bl j)) := fun j hj =>
        ⟨((hbr.cell (p := ⟨b, off + j * 2, none⟩) hbb).trans (hb0.cell (p := ⟨b, off + j * 2, none⟩) (by show b < _; omega))).trans (hc j hj).1, ((hbr.cell (p := ⟨b, off + j * 2 + 1, none⟩) hbb).trans (hb0.cell (p := ⟨b, off + j * 2 + 1, none⟩) (by show b < _; omega))).trans (hc j hj).2⟩
      obtain ⟨c0, c1⟩ := cc k hlt
      have HCC := Lib.hid cc
      have hon := HO.out k
      have hno := HNo.out k hlt
      have HRk := Lib.hid (fun w => HR.out k w hlt)
      have hzr := hbr.size
      clear cc hc
      obtain ⟨wx, ewx⟩ : ∃ wx, wx = wr.alloc (.cells #[.int .i64 (Pl.gR bl k), .int .u8 (Pl.gC bl k)] 37) := ⟨_, rfl⟩
      have hzx : wx.heap.size = wr.heap.size + 1 := by rw [ewx]; simp
      have bax : Below wr.heap.size wr wx := by rw [ewx]; exact (Below.refl _ _).alloc (Nat.le_refl _) _
      have HSN : Hid (Pl.Sc (Pl.gR bl k, Pl.gC bl k) wr.heap.size 0 wx) := by rw [ewx]; exact Pl.Sc.new (Pl.gR bl k, Pl.gC bl k) wr
      have HS : Hid (∀ w', Below wx.heap.size wx w' →
          (w'.cell? ⟨w.heap.size, 0, none⟩ = some (.int .i64 fr) ∧ w'.cell? ⟨w.heap.size, 1, none⟩ = some (.int .i64 la) ∧ w'.cell? ⟨w.heap.size, 2, none⟩ = some (.string lt) ∧ w'.cell? ⟨w.heap.size, 3, none⟩ = some (.slice eA ex.length ec) ∧ w'.cell? ⟨w.heap.size, 4, none⟩ = some (.slice (some ⟨b, off, none⟩) bl.length bc)) ∧ (w'.cell? ⟨wr.heap.size, 0, none⟩ = some (.int .i64 (Pl.gR bl k)) ∧ w'.cell? ⟨wr.heap.size, 1, none⟩ = some (.int .u8 (Pl.gC bl k))) ∧
          (∀ j, j < bl.length → w'.cell? ⟨b, off + j * 2, none⟩ = some (.int .i64 (Pl.gR bl j)) ∧ w'.cell? ⟨b, off + j * 2 + 1, none⟩ = some (.int .u8 (Pl.gC bl j)))) := fun w' hbx => by
        have bx : Below wr.heap.size wr w' := bax.trans (hbx.mono (by omega))
        refine ⟨?_, ?_, fun j hj => ⟨(bx.cell (p := ⟨b, off + j * 2, none⟩) (by show b < _; omega)).trans (HCC.out j hj).1, (bx.cell (p := ⟨b, off + j * 2 + 1, none⟩) (by show b < _; omega)).trans (HCC.out j hj).2⟩⟩
        · exact Pl.Pc.below (r := ⟨⟨fr, la, lt, ex, bl⟩, eA, ec, some ⟨b, off, none⟩, bc⟩) (Pl.Pc.below (r := ⟨⟨fr, la, lt, ex, bl⟩, eA, ec, some ⟨b, off, none⟩, bc⟩) HPN.out hbr hz1) bx (by omega)
        · exact Pl.Sc.below HSN.out hbx (by omega)
      have HBw : Hid (∀ w', Below wx.heap.size wx w' → Below w1.heap.size w1 w') := fun w' hbx =>
        hbr.trans ((bax.trans (hbx.mono (by omega))).mono hzr)
      cases hL : ir (Pl.gR bl k, Pl.gC bl k) with
      | false =>
        have HN := Lib.hid (hno (by rw [hon, hL]; rfl))
        rw [hL] at HRk
        clear hno hon
        go_wp2
        rw [← ewx]
        clear ewx
        refine wp_region_noPanic ?_
        refine wp_region_held_drew (S := fun w' => ((w'.cell? ⟨w.heap.size, 0, none⟩ = some (.int .i64 fr) ∧ w'.cell? ⟨w.heap.size, 1, none⟩ = some (.int .i64 la) ∧ w'.cell? ⟨w.heap.size, 2, none⟩ = some (.string lt) ∧ w'.cell? ⟨w.heap.size, 3, none⟩ = some (.slice eA ex.length ec) ∧ w'.cell? ⟨w.heap.size, 4, none⟩ = some (.slice (some ⟨b, off, none⟩) bl.length bc)) ∧ (w'.cell? ⟨wr.heap.size, 0, none⟩ = some (.int .i64 (Pl.gR bl k)) ∧ w'.cell? ⟨wr.heap.size, 1, none⟩ = some (.int .u8 (Pl.gC bl k))))) (by kernel_rfl) ⟨(HS.out _ (Below.refl _ _).drew).1, (HS.out _ (Below.refl _ _).drew).2.1⟩ (fun hHeld => ?_)
        refine wpAnyH_take (i := 0) (oi := ⟨some 17, _, _, _, _, _⟩) (v := ?_) rfl (by kernel_rfl) (by kernel_rfl) (by kernel_rfl) (fun _ _ _ h => h) (Or.inl ⟨by rfl, ?_⟩) (by assumption) ?_
        rotate_left
        · (intro w hSw; (try dsimp only at hSw); obtain ⟨⟨s0, s1, s2, s3, s4⟩, s5, s6⟩ := hSw; go_simp <;> with_reducible rfl)
        try simp only [Act.put]
        try simp only [List.setIfInBounds_toArray]
        try simp only [List.set_cons_succ]
        try simp only [List.set_cons_zero]
        refine wpAnyH_take (i := 1) (oi := ⟨some 18, _, _, _, _, _⟩) (v := ?_) rfl (by kernel_rfl) (by kernel_rfl) (by kernel_rfl) (fun _ _ _ h => h) (Or.inl ⟨by rfl, ?_⟩) (by assumption) ?_
        rotate_left
        · (intro w hSw; (try dsimp only at hSw); obtain ⟨⟨s0, s1, s2, s3, s4⟩, s5, s6⟩ := hSw; go_simp <;> with_reducible rfl)
        try simp only [Act.put]
        try simp only [List.setIfInBounds_toArray]
        try simp only [List.set_cons_succ]
        try simp only [List.set_cons_zero]
        refine wpAnyH_ready (rs := [2]) (by kernel_rfl) (by simp) ?_
        refine AllReadyH.cons (o := ⟨some 19, _, _, _, _, _⟩) rfl (fun K hK => ?_) AllReadyH.nil
        go_simp
        go_at_call 120
        refine (HRk.out _).mono ?_
        rintro e w2 ⟨rfl, hb2⟩
        have hb3 : Below wx.heap.size wx w2 := (Below.refl _ _).drew.trans hb2
        go_wp2_with fail
        refine hK.out _ _ ?_ (fun hHeld2 => ?_)
        · exact ⟨(HS.out _ hb3).1, (HS.out _ hb3).2.1⟩
        clear hK K
        try simp only [Act.put]
        try simp only [List.setIfInBounds_toArray]
        try simp only [List.set_cons_succ]
        try simp only [List.set_cons_zero]
        refine wpAnyH_take (i := 3) (oi := ⟨some 20, _, _, _, _, _⟩) (v := ?_) rfl (by kernel_rfl) (by kernel_rfl) (by kernel_rfl) (fun _ _ _ h => h) (Or.inl ⟨by rfl, ?_⟩) (by assumption) ?_
        rotate_left
        · (intro w hSw; (try dsimp only at hSw); obtain ⟨⟨s0, s1, s2, s3, s4⟩, s5, s6⟩ := hSw; go_simp <;> with_reducible rfl)
        try simp only [Act.put]
        try simp only [List.setIfInBounds_toArray]
        try simp only [List.set_cons_succ]
        try simp only [List.set_cons_zero]
        refine wpAnyH_take (i := 4) (oi := ⟨some 21, _, _, _, _, _⟩) (v := ?_) rfl (by kernel_rfl) (by kernel_rfl) (by kernel_rfl) (fun _ _ _ h => h) (Or.inl ⟨by rfl, ?_⟩) (by assumption) ?_
        rotate_left
        · (intro w hSw; (try dsimp only at hSw); obtain ⟨⟨s0, s1, s2, s3, s4⟩, s5, s6⟩ := hSw; go_simp <;> with_reducible rfl)
        try simp only [Act.put]
        try simp only [List.setIfInBounds_toArray]
        try simp only [List.set_cons_succ]
        try simp only [List.set_cons_zero]
        refine wpAnyH_take (i := 5) (oi := ⟨some 22, _, _, _, _, _⟩) (v := undef) rfl (by kernel_rfl) (by kernel_rfl) (by kernel_rfl) (fun _ _ _ h => h) (Or.inr ⟨by rfl, rfl⟩) (by assumption) ?_
        try simp only [Act.put]
        try simp only [List.setIfInBounds_toArray]
        try simp only [List.set_cons_succ]
        try simp only [List.set_cons_zero]
        refine wpAnyH_take (i := 6) (oi := ⟨some 23, _, _, _, _, _⟩) (v := undef) rfl (by kernel_rfl) (by kernel_rfl) (by kernel_rfl) (fun _ _ _ h => h) (Or.inr ⟨by rfl, rfl⟩) (by assumption) ?_
        try simp only [Act.put]
        try simp only [List.setIfInBounds_toArray]
        try simp only [List.set_cons_succ]
        try simp only [List.set_cons_zero]
        refine wpAnyH_take (i := 7) (oi := ⟨some 24, _, _, _, _, _⟩) (v := undef) rfl (by kernel_rfl) (by kernel_rfl) (by kernel_rfl) (fun _ _ _ h => h) (Or.inr ⟨by rfl, rfl⟩) (by assumption) ?_
        try simp only [Act.put]
        try simp only [List.setIfInBounds_toArray]
        try simp only [List.set_cons_succ]
        try simp only [List.set_cons_zero]
        refine wpAnyH_take (i := 8) (oi := ⟨some 25, _, _, _, _, _⟩) (v := undef) rfl (by kernel_rfl) (by kernel_rfl) (by kernel_rfl) (fun _ _ _ h => h) (Or.inr ⟨by rfl, rfl⟩) (by assumption) ?_
        try simp only [Act.put]
        try simp only [List.setIfInBounds_toArray]
        try simp only [List.set_cons_succ]
        try simp only [List.set_cons_zero]
        refine wpAnyH_take (i := 9) (oi := ⟨some 26, _, _, _, _, _⟩) (v := undef) rfl (by kernel_rfl) (by kernel_rfl) (by kernel_rfl) (fun _ _ _ h => h) (Or.inr ⟨by rfl, rfl⟩) (by assumption) ?_
        try simp only [Act.put]
        try simp only [List.setIfInBounds_toArray]
        try simp only [List.set_cons_succ]
        try simp only [List.set_cons_zero]
        refine wpAnyH_take (i := 10) (oi := ⟨some 27, _, _, _, _, _⟩) (v := undef) rfl (by kernel_rfl) (by kernel_rfl) (by kernel_rfl) (fun _ _ _ h => h) (Or.inr ⟨by rfl, rfl⟩) (by assumption) ?_
        try simp only [Act.put]
        try simp only [List.setIfInBounds_toArray]
        try simp only [List.set_cons_succ]
        try simp only [List.set_cons_zero]
        refine wpAnyH_take (i := 11) (oi := ⟨some 28, _, _, _, _, _⟩) (v := undef) rfl (by kernel_rfl) (by kernel_rfl) (by kernel_rfl) (fun _ _ _ h => h) (Or.inr ⟨by rfl, rfl⟩) (by assumption) ?_
        try simp only [Act.put]
        try simp only [List.setIfInBounds_toArray]
        try simp only [List.set_cons_succ]
        try simp only [List.set_cons_zero]
        refine wpAnyH_take (i := 12) (oi := ⟨some 29, _, _, _, _, _⟩) (v := undef) rfl (by kernel_rfl) (by kernel_rfl) (by kernel_rfl) (fun _ _ _ h => h) (Or.inr ⟨by rfl, rfl⟩) (by assumption) ?_
        try simp only [Act.put]
        try simp only [List.setIfInBounds_toArray]
        try simp only [List.set_cons_succ]
        try simp only [List.set_cons_zero]
        refine wpAnyH_take (i := 13) (oi := ⟨some 30, _, _, _, _, _⟩) (v := undef) rfl (by kernel_rfl) (by kernel_rfl) (by kernel_rfl) (fun _ _ _ h => h) (Or.inr ⟨by rfl, rfl⟩) (by assumption) ?_
        try simp only [Act.put]
        try simp only [List.setIfInBounds_toArray]
        try simp only [List.set_cons_succ]
        try simp only [List.set_cons_zero]
        refine wpAnyH_take (i := 14) (oi := ⟨some 31, _, _, _, _, _⟩) (v := undef) rfl (by kernel_rfl) (by kernel_rfl) (by kernel_rfl) (fun _ _ _ h => h) (Or.inr ⟨by rfl, rfl⟩) (by assumption) ?_
        try simp only [Act.put]
        try simp only [List.setIfInBounds_toArray]
        try simp only [List.set_cons_succ]
        try simp only [List.set_cons_zero]
        refine wpAnyH_take (i := 15) (oi := ⟨some 32, _, _, _, _, _⟩) (v := undef) rfl (by kernel_rfl) (by kernel_rfl) (by kernel_rfl) (fun _ _ _ h => h) (Or.inr ⟨by rfl, rfl⟩) (by assumption) ?_
        try simp only [Act.put]
        try simp only [List.setIfInBounds_toArray]
        try simp only [List.set_cons_succ]
        try simp only [List.set_cons_zero]
        refine wpAnyH_take (i := 16) (oi := ⟨some 33, _, _, _, _, _⟩) (v := undef) rfl (by kernel_rfl) (by kernel_rfl) (by kernel_rfl) (fun _ _ _ h => h) (Or.inr ⟨by rfl, rfl⟩) (by assumption) ?_
        try simp only [Act.put]
        try simp only [List.setIfInBounds_toArray]
        try simp only [List.set_cons_succ]
        try simp only [List.set_cons_zero]
        refine wpAnyH_take (i := 17) (oi := ⟨some 34, _, _, _, _, _⟩) (v := undef) rfl (by kernel_rfl) (by kernel_rfl) (by kernel_rfl) (fun _ _ _ h => h) (Or.inr ⟨by rfl, rfl⟩) (by assumption) ?_
        try simp only [Act.put]
        try simp only [List.setIfInBounds_toArray]
        try simp only [List.set_cons_succ]
        try simp only [List.set_cons_zero]
        refine wpAnyH_take (i := 18) (oi := ⟨some 35, _, _, _, _, _⟩) (v := ?_) rfl (by kernel_rfl) (by kernel_rfl) (by kernel_rfl) (fun _ _ _ h => h) (Or.inl ⟨by rfl, ?_⟩) (by assumption) ?_
        rotate_left
        · (intro w hSw; (try dsimp only at hSw); obtain ⟨⟨s0, s1, s2, s3, s4⟩, s5, s6⟩ := hSw; go_simp <;> with_reducible rfl)
        try simp only [Act.put]
        try simp only [List.setIfInBounds_toArray]
        try simp only [List.set_cons_succ]
        try simp only [List.set_cons_zero]
        refine wpAnyH_done (by kernel_rfl) ?_ _
        refine NoPanic.normal ?_
        all_goals go_wp2
        all_goals go_ret
        all_goals exact ⟨Pl.ret_bool HN.out.symm, hb0.trans ((HBw.out _ hb3).mono (by omega))⟩
      | true =>
        rw [hL] at HRk hon
        by_cases h0 : k = 0
        · have HN : Hid (∀ j, j < k + 1 → ok j = true) := fun j hj => by
            rw [show j = k by omega, hon, decide_eq_true h0]; rfl
          have hd : decide (0 < (k : Int)) = false := by simp; omega
          have hd2 : decide (0 < k) = false := by simp; omega
          clear hno hon h0
          go_wp2
          rw [← ewx]
          clear ewx
          refine wp_region_noPanic ?_
          refine wp_region_held_drew (S := fun w' => ((w'.cell? ⟨w.heap.size, 0, none⟩ = some (.int .i64 fr) ∧ w'.cell? ⟨w.heap.size, 1, none⟩ = some (.int .i64 la) ∧ w'.cell? ⟨w.heap.size, 2, none⟩ = some (.string lt) ∧ w'.cell? ⟨w.heap.size, 3, none⟩ = some (.slice eA ex.length ec) ∧ w'.cell? ⟨w.heap.size, 4, none⟩ = some (.slice (some ⟨b, off, none⟩) bl.length bc)) ∧ (w'.cell? ⟨wr.heap.size, 0, none⟩ = some (.int .i64 (Pl.gR bl k)) ∧ w'.cell? ⟨wr.heap.size, 1, none⟩ = some (.int .u8 (Pl.gC bl k))))) (by kernel_rfl) ⟨(HS.out _ (Below.refl _ _).drew).1, (HS.out _ (Below.refl _ _).drew).2.1⟩ (fun hHeld => ?_)
          refine wpAnyH_take (i := 0) (oi := ⟨some 17, _, _, _, _, _⟩) (v := ?_) rfl (by kernel_rfl) (by kernel_rfl) (by kernel_rfl) (fun _ _ _ h => h) (Or.inl ⟨by rfl, ?_⟩) (by assumption) ?_
          rotate_left
          · (intro w hSw; (try dsimp only at hSw); obtain ⟨⟨s0, s1, s2, s3, s4⟩, s5, s6⟩ := hSw; go_simp <;> with_reducible rfl)
          try simp only [Act.put]
          try simp only [List.setIfInBounds_toArray]
          try simp only [List.set_cons_succ]
          try simp only [List.set_cons_zero]
          refine wpAnyH_take (i := 1) (oi := ⟨some 18, _, _, _, _, _⟩) (v := ?_) rfl (by kernel_rfl) (by kernel_rfl) (by kernel_rfl) (fun _ _ _ h => h) (Or.inl ⟨by rfl, ?_⟩) (by assumption) ?_
          rotate_left
          · (intro w hSw; (try dsimp only at hSw); obtain ⟨⟨s0, s1, s2, s3, s4⟩, s5, s6⟩ := hSw; go_simp <;> with_reducible rfl)
          try simp only [Act.put]
          try simp only [List.setIfInBounds_toArray]
          try simp only [List.set_cons_succ]
          try simp only [List.set_cons_zero]
          refine wpAnyH_ready (rs := [2]) (by kernel_rfl) (by simp) ?_
          refine AllReadyH.cons (o := ⟨some 19, _, _, _, _, _⟩) rfl (fun K hK => ?_) AllReadyH.nil
          go_simp
          go_at_call 120
          refine (HRk.out _).mono ?_
          rintro e w2 ⟨rfl, hb2⟩
          have hb3 : Below wx.heap.size wx w2 := (Below.refl _ _).drew.trans hb2
          go_wp2_with fail
          refine hK.out _ _ ?_ (fun hHeld2 => ?_)
          · exact ⟨(HS.out _ hb3).1, (HS.out _ hb3).2.1⟩
          clear hK K
          try simp only [Act.put]
          try simp only [List.setIfInBounds_toArray]
          try simp only [List.set_cons_succ]
          try simp only [List.set_cons_zero]
          refine wpAnyH_take (i := 3) (oi := ⟨some 20, _, _, _, _, _⟩) (v := ?_) rfl (by kernel_rfl) (by kernel_rfl) (by kernel_rfl) (fun _ _ _ h => h) (Or.inl ⟨by rfl, ?_⟩) (by assumption) ?_
          rotate_left
          · (intro w hSw; (try dsimp only at hSw); obtain ⟨⟨s0, s1, s2, s3, s4⟩, s5, s6⟩ := hSw; go_simp <;> with_reducible rfl)
          try simp only [Act.put]
          try simp only [List.setIfInBounds_toArray]
          try simp only [List.set_cons_succ]
          try simp only [List.set_cons_zero]
          refine wpAnyH_take (i := 4) (oi := ⟨some 21, _, _, _, _, _⟩) (v := ?_) rfl (by kernel_rfl) (by kernel_rfl) (by kernel_rfl) (fun _ _ _ h => h) (Or.inl ⟨by rfl, ?_⟩) (by assumption) ?_
          rotate_left
          · (intro w hSw; (try dsimp only at hSw); obtain ⟨⟨s0, s1, s2, s3, s4⟩, s5, s6⟩ := hSw; go_simp <;> with_reducible rfl)
          try simp only [Act.put]
          try simp only [List.setIfInBounds_toArray]
          try simp only [List.set_cons_succ]
          try simp only [List.set_cons_zero]
          refine wpAnyH_take (i := 5) (oi := ⟨some 22, _, _, _, _, _⟩) (v := ?_) rfl (by kernel_rfl) (by kernel_rfl) (by kernel_rfl) (fun _ _ _ h => h) (Or.inl ⟨by rfl, ?_⟩) (by assumption) ?_
          rotate_left
          · (intro w hSw; (try dsimp only at hSw); obtain ⟨⟨s0, s1, s2, s3, s4⟩, s5, s6⟩ := hSw; go_simp <;> with_reducible rfl)
          try simp only [Act.put]
          try simp only [List.setIfInBounds_toArray]
          try simp only [List.set_cons_succ]
          try simp only [List.set_cons_zero]
          refine wpAnyH_take (i := 6) (oi := ⟨some 23, _, _, _, _, _⟩) (v := .bool false) rfl (by kernel_rfl) (by kernel_rfl) (by kernel_rfl) (fun _ _ _ h => h) (Or.inl ⟨by rfl, ?_⟩) (by assumption) ?_
          · (intro w hSw; (try dsimp only at hSw); obtain ⟨⟨s0, s1, s2, s3, s4⟩, s5, s6⟩ := hSw; go_simp <;> first | with_reducible rfl | simp [hd, hd2] | omega)
          try simp only [Act.put]
          try simp only [List.setIfInBounds_toArray]
          try simp only [List.set_cons_succ]
          try simp only [List.set_cons_zero]
          refine wpAnyH_take (i := 7) (oi := ⟨some 24, _, _, _, _, _⟩) (v := ?_) rfl (by kernel_rfl) (by kernel_rfl) (by kernel_rfl) (fun _ _ _ h => h) (Or.inl ⟨by rfl, ?_⟩) (by assumption) ?_
          rotate_left
          · (intro w hSw; (try dsimp only at hSw); obtain ⟨⟨s0, s1, s2, s3, s4⟩, s5, s6⟩ := hSw; go_simp <;> with_reducible rfl)
          try simp only [Act.put]
          try simp only [List.setIfInBounds_toArray]
          try simp only [List.set_cons_succ]
          try simp only [List.set_cons_zero]
          refine wpAnyH_take (i := 8) (oi := ⟨some 25, _, _, _, _, _⟩) (v := undef) rfl (by kernel_rfl) (by kernel_rfl) (by kernel_rfl) (fun _ _ _ h => h) (Or.inr ⟨by rfl, rfl⟩) (by assumption) ?_
          try simp only [Act.put]
          try simp only [List.setIfInBounds_toArray]
          try simp only [List.set_cons_succ]
          try simp only [List.set_cons_zero]
          refine wpAnyH_take (i := 9) (oi := ⟨some 26, _, _, _, _, _⟩) (v := undef) rfl (by kernel_rfl) (by kernel_rfl) (by kernel_rfl) (fun _ _ _ h => h) (Or.inr ⟨by rfl, rfl⟩) (by assumption) ?_
          try simp only [Act.put]
          try simp only [List.setIfInBounds_toArray]
          try simp only [List.set_cons_succ]
          try simp only [List.set_cons_zero]
          refine wpAnyH_take (i := 10) (oi := ⟨some 27, _, _, _, _, _⟩) (v := undef) rfl (by kernel_rfl) (by kernel_rfl) (by kernel_rfl) (fun _ _ _ h => h) (Or.inr ⟨by rfl, rfl⟩) (by assumption) ?_
          try simp only [Act.put]
          try simp only [List.setIfInBounds_toArray]
          try simp only [List.set_cons_succ]
          try simp only [List.set_cons_zero]
          refine wpAnyH_take (i := 11) (oi := ⟨some 28, _, _, _, _, _⟩) (v := undef) rfl (by kernel_rfl) (by kernel_rfl) (by kernel_rfl) (fun _ _ _ h => h) (Or.inr ⟨by rfl, rfl⟩) (by assumption) ?_
          try simp only [Act.put]
          try simp only [List.setIfInBounds_toArray]
          try simp only [List.set_cons_succ]
          try simp only [List.set_cons_zero]
          refine wpAnyH_take (i := 12) (oi := ⟨some 29, _, _, _, _, _⟩) (v := undef) rfl (by kernel_rfl) (by kernel_rfl) (by kernel_rfl) (fun _ _ _ h => h) (Or.inr ⟨by rfl, rfl⟩) (by assumption) ?_
          try simp only [Act.put]
          try simp only [List.setIfInBounds_toArray]
          try simp only [List.set_cons_succ]
          try simp only [List.set_cons_zero]
          refine wpAnyH_take (i := 13) (oi := ⟨some 30, _, _, _, _, _⟩) (v := undef) rfl (by kernel_rfl) (by kernel_rfl) (by kernel_rfl) (fun _ _ _ h => h) (Or.inr ⟨by rfl, rfl⟩) (by assumption) ?_
          try simp only [Act.put]
          try simp only [List.setIfInBounds_toArray]
          try simp only [List.set_cons_succ]
          try simp only [List.set_cons_zero]
          refine wpAnyH_take (i := 14) (oi := ⟨some 31, _, _, _, _, _⟩) (v := undef) rfl (by kernel_rfl) (by kernel_rfl) (by kernel_rfl) (fun _ _ _ h => h) (Or.inr ⟨by rfl, rfl⟩) (by assumption) ?_
          try simp only [Act.put]
          try simp only [List.setIfInBounds_toArray]
          try simp only [List.set_cons_succ]
          try simp only [List.set_cons_zero]
          refine wpAnyH_take (i := 15) (oi := ⟨some 32, _, _, _, _, _⟩) (v := undef) rfl (by kernel_rfl) (by kernel_rfl) (by kernel_rfl) (fun _ _ _ h => h) (Or.inr ⟨by rfl, rfl⟩) (by assumption) ?_
          try simp only [Act.put]
          try simp only [List.setIfInBounds_toArray]
          try simp only [List.set_cons_succ]
          try simp only [List.set_cons_zero]
          refine wpAnyH_take (i := 16) (oi := ⟨some 33, _, _, _, _, _⟩) (v := undef) rfl (by kernel_rfl) (by kernel_rfl) (by kernel_rfl) (fun _ _ _ h => h) (Or.inr ⟨by rfl, rfl⟩) (by assumption) ?_
          try simp only [Act.put]
          try simp only [List.setIfInBounds_toArray]
          try simp only [List.set_cons_succ]
          try simp only [List.set_cons_zero]
          refine wpAnyH_take (i := 17) (oi := ⟨some 34, _, _, _, _, _⟩) (v := ?_) rfl (by kernel_rfl) (by kernel_rfl) (by kernel_rfl) (fun _ _ _ h => h) (Or.inl ⟨by rfl, ?_⟩) (by assumption) ?_
          rotate_left
          · (intro w hSw; (try dsimp only at hSw); obtain ⟨⟨s0, s1, s2, s3, s4⟩, s5, s6⟩ := hSw; go_simp <;> with_reducible rfl)
          try simp only [Act.put]
          try simp only [List.setIfInBounds_toArray]
          try simp only [List.set_cons_succ]
          try simp only [List.set_cons_zero]
          refine wpAnyH_take (i := 18) (oi := ⟨some 35, _, _, _, _, _⟩) (v := ?_) rfl (by kernel_rfl) (by kernel_rfl) (by kernel_rfl) (fun _ _ _ h => h) (Or.inl ⟨by rfl, ?_⟩) (by assumption) ?_
          rotate_left
          · (intro w hSw; (try dsimp only at hSw); obtain ⟨⟨s0, s1, s2, s3, s4⟩, s5, s6⟩ := hSw; go_simp <;> with_reducible rfl)
          try simp only [Act.put]
          try simp only [List.setIfInBounds_toArray]
          try simp only [List.set_cons_succ]
          try simp only [List.set_cons_zero]
          refine wpAnyH_done (by kernel_rfl) ?_ _
          refine NoPanic.normal ?_
          all_goals go_wp2
          all_goals first | exact ⟨⟨k + 1, by omega, by go_num, HN, HBw.out _ hb3⟩, by simp [intOf]; omega⟩ | (go_roundw <;> first | exact ⟨k + 1, by omega, by go_num, HN, HBw.out _ hb3⟩ | (simp [intOf]; omega))
        · rw [decide_eq_false h0] at hon
          obtain ⟨m, hm⟩ : ∃ m, k - 1 = m := ⟨_, rfl⟩
          rw [hm] at hon
          have hm2 : m < bl.length := by omega
          have hd : decide (0 < (k : Int)) = true := by simp; omega
          have hd2 : decide (0 < k) = true := by simp; omega
          have hw1 : (k : Int) - 1 = (m : Int) := by omega
          have hw2 : IntKind.i64.wrap (m : Int) = (m : Int) := IntWalk.i64_in _ (by omega)
          have HLk := Lib.hid (fun w => below_any (Pl.gR bl m, Pl.gC bl m) (Pl.gR bl k, Pl.gC bl k) w)
          unfold Pl.sv at HLk
          simp only at HLk
          cases h5 : Pl.lss (Pl.gR bl m, Pl.gC bl m) (Pl.gR bl k, Pl.gC bl k) with
          | true =>
            have HN : Hid (∀ j, j < k + 1 → ok j = true) := fun j hj => by
              rcases Nat.lt_or_ge j k with hj' | hj'
              · exact HK.out j hj'
              · rw [show j = k by omega, hon, h5]; rfl
            rw [h5] at HLk
            clear hno hon
            go_wp2
            rw [← ewx]
            clear ewx
            refine wp_region_noPanic ?_
            refine wp_region_held_drew (S := fun w' => (((w'.cell? ⟨w.heap.size, 0, none⟩ = some (.int .i64 fr) ∧ w'.cell? ⟨w.heap.size, 1, none⟩ = some (.int .i64 la) ∧ w'.cell? ⟨w.heap.size, 2, none⟩ = some (.string lt) ∧ w'.cell? ⟨w.heap.size, 3, none⟩ = some (.slice eA ex.length ec) ∧ w'.cell? ⟨w.heap.size, 4, none⟩ = some (.slice (some ⟨b, off, none⟩) bl.length bc)) ∧ (w'.cell? ⟨wr.heap.size, 0, none⟩ = some (.int .i64 (Pl.gR bl k)) ∧ w'.cell? ⟨wr.heap.size, 1, none⟩ = some (.int .u8 (Pl.gC bl k)))) ∧ (w'.cell? ⟨b, off + m * 2, none⟩ = some (.int .i64 (Pl.gR bl m)) ∧ w'.cell? ⟨b, off + m * 2 + 1, none⟩ = some (.int .u8 (Pl.gC bl m))))) (by kernel_rfl) ⟨⟨(HS.out _ (Below.refl _ _).drew).1, (HS.out _ (Below.refl _ _).drew).2.1⟩, (HS.out _ (Below.refl _ _).drew).2.2 m hm2⟩ (fun hHeld => ?_)
            refine wpAnyH_take (i := 0) (oi := ⟨some 17, _, _, _, _, _⟩) (v := ?_) rfl (by kernel_rfl) (by kernel_rfl) (by kernel_rfl) (fun _ _ _ h => h) (Or.inl ⟨by rfl, ?_⟩) (by assumption) ?_
            rotate_left
            · (intro w hSw; (try dsimp only at hSw); obtain ⟨⟨⟨s0, s1, s2, s3, s4⟩, s5, s6⟩, s7, s8⟩ := hSw; go_simp <;> with_reducible rfl)
            try simp only [Act.put]
            try simp only [List.setIfInBounds_toArray]
            try simp only [List.set_cons_succ]
            try simp only [List.set_cons_zero]
            refine wpAnyH_take (i := 1) (oi := ⟨some 18, _, _, _, _, _⟩) (v := ?_) rfl (by kernel_rfl) (by kernel_rfl) (by kernel_rfl) (fun _ _ _ h => h) (Or.inl ⟨by rfl, ?_⟩) (by assumption) ?_
            rotate_left
            · (intro w hSw; (try dsimp only at hSw); obtain ⟨⟨⟨s0, s1, s2, s3, s4⟩, s5, s6⟩, s7, s8⟩ := hSw; go_simp <;> with_reducible rfl)
            try simp only [Act.put]
            try simp only [List.setIfInBounds_toArray]
            try simp only [List.set_cons_succ]
            try simp only [List.set_cons_zero]
            refine wpAnyH_ready (rs := [2]) (by kernel_rfl) (by simp) ?_
            refine AllReadyH.cons (o := ⟨some 19, _, _, _, _, _⟩) rfl (fun K hK => ?_) AllReadyH.nil
            go_simp
            go_at_call 120
            refine (HRk.out _).mono ?_
            rintro e w2 ⟨rfl, hb2⟩
            have hb3 : Below wx.heap.size wx w2 := (Below.refl _ _).drew.trans hb2
            go_wp2_with fail
            refine hK.out _ _ ?_ (fun hHeld2 => ?_)
            · exact ⟨⟨(HS.out _ hb3).1, (HS.out _ hb3).2.1⟩, (HS.out _ hb3).2.2 m hm2⟩
            clear hK K
            try simp only [Act.put]
            try simp only [List.setIfInBounds_toArray]
            try simp only [List.set_cons_succ]
            try simp only [List.set_cons_zero]
            refine wpAnyH_take (i := 3) (oi := ⟨some 20, _, _, _, _, _⟩) (v := ?_) rfl (by kernel_rfl) (by kernel_rfl) (by kernel_rfl) (fun _ _ _ h => h) (Or.inl ⟨by rfl, ?_⟩) (by assumption) ?_
            rotate_left
            · (intro w hSw; (try dsimp only at hSw); obtain ⟨⟨⟨s0, s1, s2, s3, s4⟩, s5, s6⟩, s7, s8⟩ := hSw; go_simp <;> with_reducible rfl)
            try simp only [Act.put]
            try simp only [List.setIfInBounds_toArray]
            try simp only [List.set_cons_succ]
            try simp only [List.set_cons_zero]
            refine wpAnyH_take (i := 4) (oi := ⟨some 21, _, _, _, _, _⟩) (v := ?_) rfl (by kernel_rfl) (by kernel_rfl) (by kernel_rfl) (fun _ _ _ h => h) (Or.inl ⟨by rfl, ?_⟩) (by assumption) ?_
            rotate_left
            · (intro w hSw; (try dsimp only at hSw); obtain ⟨⟨⟨s0, s1, s2, s3, s4⟩, s5, s6⟩, s7, s8⟩ := hSw; go_simp <;> with_reducible rfl)
            try simp only [Act.put]
            try simp only [List.setIfInBounds_toArray]
            try simp only [List.set_cons_succ]
            try simp only [List.set_cons_zero]
            refine wpAnyH_take (i := 5) (oi := ⟨some 22, _, _, _, _, _⟩) (v := ?_) rfl (by kernel_rfl) (by kernel_rfl) (by kernel_rfl) (fun _ _ _ h => h) (Or.inl ⟨by rfl, ?_⟩) (by assumption) ?_
            rotate_left
            · (intro w hSw; (try dsimp only at hSw); obtain ⟨⟨⟨s0, s1, s2, s3, s4⟩, s5, s6⟩, s7, s8⟩ := hSw; go_simp <;> with_reducible rfl)
            try simp only [Act.put]
            try simp only [List.setIfInBounds_toArray]
            try simp only [List.set_cons_succ]
            try simp only [List.set_cons_zero]
            refine wpAnyH_take (i := 6) (oi := ⟨some 23, _, _, _, _, _⟩) (v := .bool true) rfl (by kernel_rfl) (by kernel_rfl) (by kernel_rfl) (fun _ _ _ h => h) (Or.inl ⟨by rfl, ?_⟩) (by assumption) ?_
            · (intro w hSw; (try dsimp only at hSw); obtain ⟨⟨⟨s0, s1, s2, s3, s4⟩, s5, s6⟩, s7, s8⟩ := hSw; go_simp <;> first | with_reducible rfl | simp [hd, hd2] | omega)
            try simp only [Act.put]
            try simp only [List.setIfInBounds_toArray]
            try simp only [List.set_cons_succ]
            try simp only [List.set_cons_zero]
            refine wpAnyH_take (i := 7) (oi := ⟨some 24, _, _, _, _, _⟩) (v := ?_) rfl (by kernel_rfl) (by kernel_rfl) (by kernel_rfl) (fun _ _ _ h => h) (Or.inl ⟨by rfl, ?_⟩) (by assumption) ?_
            rotate_left
            · (intro w hSw; (try dsimp only at hSw); obtain ⟨⟨⟨s0, s1, s2, s3, s4⟩, s5, s6⟩, s7, s8⟩ := hSw; go_simp <;> with_reducible rfl)
            try simp only [Act.put]
            try simp only [List.setIfInBounds_toArray]
            try simp only [List.set_cons_succ]
            try simp only [List.set_cons_zero]
            refine wpAnyH_take (i := 8) (oi := ⟨some 25, _, _, _, _, _⟩) (v := ?_) rfl (by kernel_rfl) (by kernel_rfl) (by kernel_rfl) (fun _ _ _ h => h) (Or.inl ⟨by rfl, ?_⟩) (by assumption) ?_
            rotate_left
            · (intro w hSw; (try dsimp only at hSw); obtain ⟨⟨⟨s0, s1, s2, s3, s4⟩, s5, s6⟩, s7, s8⟩ := hSw; go_simp <;> with_reducible rfl)
            try simp only [Act.put]
            try simp only [List.setIfInBounds_toArray]
            try simp only [List.set_cons_succ]
            try simp only [List.set_cons_zero]
            refine wpAnyH_take (i := 9) (oi := ⟨some 26, _, _, _, _, _⟩) (v := ?_) rfl (by kernel_rfl) (by kernel_rfl) (by kernel_rfl) (fun _ _ _ h => h) (Or.inl ⟨by rfl, ?_⟩) (by assumption) ?_
            rotate_left
            · (intro w hSw; (try dsimp only at hSw); obtain ⟨⟨⟨s0, s1, s2, s3, s4⟩, s5, s6⟩, s7, s8⟩ := hSw; go_simp <;> with_reducible rfl)
            try simp only [Act.put]
            try simp only [List.setIfInBounds_toArray]
            try simp only [List.set_cons_succ]
            try simp only [List.set_cons_zero]
            refine wpAnyH_take (i := 10) (oi := ⟨some 27, _, _, _, _, _⟩) (v := ?_) rfl (by kernel_rfl) (by kernel_rfl) (by kernel_rfl) (fun _ _ _ h => h) (Or.inl ⟨by rfl, ?_⟩) (by assumption) ?_
            rotate_left
            · (intro w hSw; (try dsimp only at hSw); obtain ⟨⟨⟨s0, s1, s2, s3, s4⟩, s5, s6⟩, s7, s8⟩ := hSw; go_simp <;> with_reducible rfl)
            try simp only [Act.put]
            try simp only [List.setIfInBounds_toArray]
            try simp only [List.set_cons_succ]
            try simp only [List.set_cons_zero]
            refine wpAnyH_take (i := 11) (oi := ⟨some 28, _, _, _, _, _⟩) (v := ?_) rfl (by kernel_rfl) (by kernel_rfl) (by kernel_rfl) (fun _ _ _ h => h) (Or.inl ⟨by rfl, ?_⟩) (by assumption) ?_
            rotate_left
            · (intro w hSw; (try dsimp only at hSw); obtain ⟨⟨⟨s0, s1, s2, s3, s4⟩, s5, s6⟩, s7, s8⟩ := hSw; go_simp <;> with_reducible rfl)
            try simp only [Act.put]
            try simp only [List.setIfInBounds_toArray]
            try simp only [List.set_cons_succ]
            try simp only [List.set_cons_zero]
            refine wpAnyH_take (i := 12) (oi := ⟨some 29, _, _, _, _, _⟩) (v := ?_) rfl (by kernel_rfl) (by kernel_rfl) (by kernel_rfl) (fun _ _ _ h => h) (Or.inl ⟨by rfl, ?_⟩) (by assumption) ?_
            rotate_left
            · (intro w hSw; (try dsimp only at hSw); obtain ⟨⟨⟨s0, s1, s2, s3, s4⟩, s5, s6⟩, s7, s8⟩ := hSw; go_simp <;> with_reducible rfl)
            try simp only [Act.put]
            try simp only [List.setIfInBounds_toArray]
            try simp only [List.set_cons_succ]
            try simp only [List.set_cons_zero]
            refine wpAnyH_take (i := 13) (oi := ⟨some 30, _, _, _, _, _⟩) (v := ?_) rfl (by kernel_rfl) (by kernel_rfl) (by kernel_rfl) (fun _ _ _ h => h) (Or.inl ⟨by rfl, ?_⟩) (by assumption) ?_
            rotate_left
            · (intro w hSw; (try dsimp only at hSw); obtain ⟨⟨⟨s0, s1, s2, s3, s4⟩, s5, s6⟩, s7, s8⟩ := hSw; go_simp <;> with_reducible rfl)
            try simp only [Act.put]
            try simp only [List.setIfInBounds_toArray]
            try simp only [List.set_cons_succ]
            try simp only [List.set_cons_zero]
            refine wpAnyH_take (i := 14) (oi := ⟨some 31, _, _, _, _, _⟩) (v := ?_) rfl (by kernel_rfl) (by kernel_rfl) (by kernel_rfl) (fun _ _ _ h => h) (Or.inl ⟨by rfl, ?_⟩) (by assumption) ?_
            rotate_left
            · (intro w hSw; (try dsimp only at hSw); obtain ⟨⟨⟨s0, s1, s2, s3, s4⟩, s5, s6⟩, s7, s8⟩ := hSw; go_simp <;> with_reducible rfl)
            try simp only [Act.put]
            try simp only [List.setIfInBounds_toArray]
            try simp only [List.set_cons_succ]
            try simp only [List.set_cons_zero]
            refine wpAnyH_ready (rs := [15]) (by kernel_rfl) (by simp) ?_
            refine AllReadyH.cons (o := ⟨some 32, _, _, _, _, _⟩) rfl (fun K hK => ?_) AllReadyH.nil
            go_simp
            go_at_call 121
            refine (HLk.out _).mono ?_
            rintro e w4 ⟨rfl, hb4⟩
            have hb5 : Below wx.heap.size wx w4 := hb3.trans (hb4.mono hb3.size)
            go_wp2_with fail
            refine hK.out _ _ ?_ (fun hHeld2 => ?_)
            · exact ⟨⟨(HS.out _ hb5).1, (HS.out _ hb5).2.1⟩, (HS.out _ hb5).2.2 m hm2⟩
            clear hK K
            try simp only [Act.put]
            try simp only [List.setIfInBounds_toArray]
            try simp only [List.set_cons_succ]
            try simp only [List.set_cons_zero]
            refine wpAnyH_take (i := 16) (oi := ⟨some 33, _, _, _, _, _⟩) (v := ?_) rfl (by kernel_rfl) (by kernel_rfl) (by kernel_rfl) (fun _ _ _ h => h) (Or.inl ⟨by rfl, ?_⟩) (by assumption) ?_
            rotate_left
            · (intro w hSw; (try dsimp only at hSw); obtain ⟨⟨⟨s0, s1, s2, s3, s4⟩, s5, s6⟩, s7, s8⟩ := hSw; go_simp <;> with_reducible rfl)
            try simp only [Act.put]
            try simp only [List.setIfInBounds_toArray]
            try simp only [List.set_cons_succ]
            try simp only [List.set_cons_zero]
            refine wpAnyH_take (i := 17) (oi := ⟨some 34, _, _, _, _, _⟩) (v := ?_) rfl (by kernel_rfl) (by kernel_rfl) (by kernel_rfl) (fun _ _ _ h => h) (Or.inl ⟨by rfl, ?_⟩) (by assumption) ?_
            rotate_left
            · (intro w hSw; (try dsimp only at hSw); obtain ⟨⟨⟨s0, s1, s2, s3, s4⟩, s5, s6⟩, s7, s8⟩ := hSw; go_simp <;> with_reducible rfl)
            try simp only [Act.put]
            try simp only [List.setIfInBounds_toArray]
            try simp only [List.set_cons_succ]
            try simp only [List.set_cons_zero]
            refine wpAnyH_take (i := 18) (oi := ⟨some 35, _, _, _, _, _⟩) (v := ?_) rfl (by kernel_rfl) (by kernel_rfl) (by kernel_rfl) (fun _ _ _ h => h) (Or.inl ⟨by rfl, ?_⟩) (by assumption) ?_
            rotate_left
            · (intro w hSw; (try dsimp only at hSw); obtain ⟨⟨⟨s0, s1, s2, s3, s4⟩, s5, s6⟩, s7, s8⟩ := hSw; go_simp <;> with_reducible rfl)
            try simp only [Act.put]
            try simp only [List.setIfInBounds_toArray]
            try simp only [List.set_cons_succ]
            try simp only [List.set_cons_zero]
            refine wpAnyH_done (by kernel_rfl) ?_ _
            refine NoPanic.normal ?_
            all_goals go_wp2
            all_goals first | exact ⟨⟨k + 1, by omega, by go_num, HN, HBw.out _ hb5⟩, by simp [intOf]; omega⟩ | (go_roundw <;> first | exact ⟨k + 1, by omega, by go_num, HN, HBw.out _ hb5⟩ | (simp [intOf]; omega))
          | false =>
            have HN := Lib.hid (hno (by rw [hon, h5]; rfl))
            rw [h5] at HLk
            clear hno hon
            go_wp2
            rw [← ewx]
            clear ewx
            refine wp_region_noPanic ?_
            refine wp_region_held_drew (S := fun w' => (((w'.cell? ⟨w.heap.size, 0, none⟩ = some (.int .i64 fr) ∧ w'.cell? ⟨w.heap.size, 1, none⟩ = some (.int .i64 la) ∧ w'.cell? ⟨w.heap.size, 2, none⟩ = some (.string lt) ∧ w'.cell? ⟨w.heap.size, 3, none⟩ = some (.slice eA ex.length ec) ∧ w'.cell? ⟨w.heap.size, 4, none⟩ = some (.slice (some ⟨b, off, none⟩) bl.length bc)) ∧ (w'.cell? ⟨wr.heap.size, 0, none⟩ = some (.int .i64 (Pl.gR bl k)) ∧ w'.cell? ⟨wr.heap.size, 1, none⟩ = some (.int .u8 (Pl.gC bl k)))) ∧ (w'.cell? ⟨b, off + m * 2, none⟩ = some (.int .i64 (Pl.gR bl m)) ∧ w'.cell? ⟨b, off + m * 2 + 1, none⟩ = some (.int .u8 (Pl.gC bl m))))) (by kernel_rfl) ⟨⟨(HS.out _ (Below.refl _ _).drew).1, (HS.out _ (Below.refl _ _).drew).2.1⟩, (HS.out _ (Below.refl _ _).drew).2.2 m hm2⟩ (fun hHeld => ?_)
            refine wpAnyH_take (i := 0) (oi := ⟨some 17, _, _, _, _, _⟩) (v := ?_) rfl (by kernel_rfl) (by kernel_rfl) (by kernel_rfl) (fun _ _ _ h => h) (Or.inl ⟨by rfl, ?_⟩) (by assumption) ?_
            rotate_left
            · (intro w hSw; (try dsimp only at hSw); obtain ⟨⟨⟨s0, s1, s2, s3, s4⟩, s5, s6⟩, s7, s8⟩ := hSw; go_simp <;> with_reducible rfl)
            try simp only [Act.put]
            try simp only [List.setIfInBounds_toArray]
            try simp only [List.set_cons_succ]
            try simp only [List.set_cons_zero]
            refine wpAnyH_take (i := 1) (oi := ⟨some 18, _, _, _, _, _⟩) (v := ?_) rfl (by kernel_rfl) (by kernel_rfl) (by kernel_rfl) (fun _ _ _ h => h) (Or.inl ⟨by rfl, ?_⟩) (by assumption) ?_
            rotate_left
            · (intro w hSw; (try dsimp only at hSw); obtain ⟨⟨⟨s0, s1, s2, s3, s4⟩, s5, s6⟩, s7, s8⟩ := hSw; go_simp <;> with_reducible rfl)
            try simp only [Act.put]
            try simp only [List.setIfInBounds_toArray]
            try simp only [List.set_cons_succ]
            try simp only [List.set_cons_zero]
            refine wpAnyH_ready (rs := [2]) (by kernel_rfl) (by simp) ?_
            refine AllReadyH.cons (o := ⟨some 19, _, _, _, _, _⟩) rfl (fun K hK => ?_) AllReadyH.nil
            go_simp
            go_at_call 120
            refine (HRk.out _).mono ?_
            rintro e w2 ⟨rfl, hb2⟩
            have hb3 : Below wx.heap.size wx w2 := (Below.refl _ _).drew.trans hb2
            go_wp2_with fail
            refine hK.out _ _ ?_ (fun hHeld2 => ?_)
            · exact ⟨⟨(HS.out _ hb3).1, (HS.out _ hb3).2.1⟩, (HS.out _ hb3).2.2 m hm2⟩
            clear hK K
            try simp only [Act.put]
            try simp only [List.setIfInBounds_toArray]
            try simp only [List.set_cons_succ]
            try simp only [List.set_cons_zero]
            refine wpAnyH_take (i := 3) (oi := ⟨some 20, _, _, _, _, _⟩) (v := ?_) rfl (by kernel_rfl) (by kernel_rfl) (by kernel_rfl) (fun _ _ _ h => h) (Or.inl ⟨by rfl, ?_⟩) (by assumption) ?_
            rotate_left
            · (intro w hSw; (try dsimp only at hSw); obtain ⟨⟨⟨s0, s1, s2, s3, s4⟩, s5, s6⟩, s7, s8⟩ := hSw; go_simp <;> with_reducible rfl)
            try simp only [Act.put]
            try simp only [List.setIfInBounds_toArray]
            try simp only [List.set_cons_succ]
            try simp only [List.set_cons_zero]
            refine wpAnyH_take (i := 4) (oi := ⟨some 21, _, _, _, _, _⟩) (v := ?_) rfl (by kernel_rfl) (by kernel_rfl) (by kernel_rfl) (fun _ _ _ h => h) (Or.inl ⟨by rfl, ?_⟩) (by assumption) ?_
            rotate_left
            · (intro w hSw; (try dsimp only at hSw); obtain ⟨⟨⟨s0, s1, s2, s3, s4⟩, s5, s6⟩, s7, s8⟩ := hSw; go_simp <;> with_reducible rfl)
            try simp only [Act.put]
            try simp only [List.setIfInBounds_toArray]
            try simp only [List.set_cons_succ]
            try simp only [List.set_cons_zero]
            refine wpAnyH_take (i := 5) (oi := ⟨some 22, _, _, _, _, _⟩) (v := ?_) rfl (by kernel_rfl) (by kernel_rfl) (by kernel_rfl) (fun _ _ _ h => h) (Or.inl ⟨by rfl, ?_⟩) (by assumption) ?_
            rotate_left
            · (intro w hSw; (try dsimp only at hSw); obtain ⟨⟨⟨s0, s1, s2, s3, s4⟩, s5, s6⟩, s7, s8⟩ := hSw; go_simp <;> with_reducible rfl)
            try simp only [Act.put]
            try simp only [List.setIfInBounds_toArray]
            try simp only [List.set_cons_succ]
            try simp only [List.set_cons_zero]
            refine wpAnyH_take (i := 6) (oi := ⟨some 23, _, _, _, _, _⟩) (v := .bool true) rfl (by kernel_rfl) (by kernel_rfl) (by kernel_rfl) (fun _ _ _ h => h) (Or.inl ⟨by rfl, ?_⟩) (by assumption) ?_
            · (intro w hSw; (try dsimp only at hSw); obtain ⟨⟨⟨s0, s1, s2, s3, s4⟩, s5, s6⟩, s7, s8⟩ := hSw; go_simp <;> first | with_reducible rfl | simp [hd, hd2] | omega)
            try simp only [Act.put]
            try simp only [List.setIfInBounds_toArray]
            try simp only [List.set_cons_succ]
            try simp only [List.set_cons_zero]
            refine wpAnyH_take (i := 7) (oi := ⟨some 24, _, _, _, _, _⟩) (v := ?_) rfl (by kernel_rfl) (by kernel_rfl) (by kernel_rfl) (fun _ _ _ h => h) (Or.inl ⟨by rfl, ?_⟩) (by assumption) ?_
            rotate_left
            · (intro w hSw; (try dsimp only at hSw); obtain ⟨⟨⟨s0, s1, s2, s3, s4⟩, s5, s6⟩, s7, s8⟩ := hSw; go_simp <;> with_reducible rfl)
            try simp only [Act.put]
            try simp only [List.setIfInBounds_toArray]
            try simp only [List.set_cons_succ]
            try simp only [List.set_cons_zero]
            refine wpAnyH_take (i := 8) (oi := ⟨some 25, _, _, _, _, _⟩) (v := ?_) rfl (by kernel_rfl) (by kernel_rfl) (by kernel_rfl) (fun _ _ _ h => h) (Or.inl ⟨by rfl, ?_⟩) (by assumption) ?_
            rotate_left
            · (intro w hSw; (try dsimp only at hSw); obtain ⟨⟨⟨s0, s1, s2, s3, s4⟩, s5, s6⟩, s7, s8⟩ := hSw; go_simp <;> with_reducible rfl)
            try simp only [Act.put]
            try simp only [List.setIfInBounds_toArray]
            try simp only [List.set_cons_succ]
            try simp only [List.set_cons_zero]
            refine wpAnyH_take (i := 9) (oi := ⟨some 26, _, _, _, _, _⟩) (v := ?_) rfl (by kernel_rfl) (by kernel_rfl) (by kernel_rfl) (fun _ _ _ h => h) (Or.inl ⟨by rfl, ?_⟩) (by assumption) ?_
            rotate_left
            · (intro w hSw; (try dsimp only at hSw); obtain ⟨⟨⟨s0, s1, s2, s3, s4⟩, s5, s6⟩, s7, s8⟩ := hSw; go_simp <;> with_reducible rfl)
            try simp only [Act.put]
            try simp only [List.setIfInBounds_toArray]
            try simp only [List.set_cons_succ]
            try simp only [List.set_cons_zero]
            refine wpAnyH_take (i := 10) (oi := ⟨some 27, _, _, _, _, _⟩) (v := ?_) rfl (by kernel_rfl) (by kernel_rfl) (by kernel_rfl) (fun _ _ _ h => h) (Or.inl ⟨by rfl, ?_⟩) (by assumption) ?_
            rotate_left
            · (intro w hSw; (try dsimp only at hSw); obtain ⟨⟨⟨s0, s1, s2, s3, s4⟩, s5, s6⟩, s7, s8⟩ := hSw; go_simp <;> with_reducible rfl)
            try simp only [Act.put]
            try simp only [List.setIfInBounds_toArray]
            try simp only [List.set_cons_succ]
            try simp only [List.set_cons_zero]
            refine wpAnyH_take (i := 11) (oi := ⟨some 28, _, _, _, _, _⟩) (v := ?_) rfl (by kernel_rfl) (by kernel_rfl) (by kernel_rfl) (fun _ _ _ h => h) (Or.inl ⟨by rfl, ?_⟩) (by assumption) ?_
            rotate_left
            · (intro w hSw; (try dsimp only at hSw); obtain ⟨⟨⟨s0, s1, s2, s3, s4⟩, s5, s6⟩, s7, s8⟩ := hSw; go_simp <;> with_reducible rfl)
            try simp only [Act.put]
            try simp only [List.setIfInBounds_toArray]
            try simp only [List.set_cons_succ]
            try simp only [List.set_cons_zero]
            refine wpAnyH_take (i := 12) (oi := ⟨some 29, _, _, _, _, _⟩) (v := ?_) rfl (by kernel_rfl) (by kernel_rfl) (by kernel_rfl) (fun _ _ _ h => h) (Or.inl ⟨by rfl, ?_⟩) (by assumption) ?_
            rotate_left
            · (intro w hSw; (try dsimp only at hSw); obtain ⟨⟨⟨s0, s1, s2, s3, s4⟩, s5, s6⟩, s7, s8⟩ := hSw; go_simp <;> with_reducible rfl)
            try simp only [Act.put]
            try simp only [List.setIfInBounds_toArray]
            try simp only [List.set_cons_succ]
            try simp only [List.set_cons_zero]
            refine wpAnyH_take (i := 13) (oi := ⟨some 30, _, _, _, _, _⟩) (v := ?_) rfl (by kernel_rfl) (by kernel_rfl) (by kernel_rfl) (fun _ _ _ h => h) (Or.inl ⟨by rfl, ?_⟩) (by assumption) ?_
            rotate_left
            · (intro w hSw; (try dsimp only at hSw); obtain ⟨⟨⟨s0, s1, s2, s3, s4⟩, s5, s6⟩, s7, s8⟩ := hSw; go_simp <;> with_reducible rfl)
            try simp only [Act.put]
            try simp only [List.setIfInBounds_toArray]
            try simp only [List.set_cons_succ]
            try simp only [List.set_cons_zero]
            refine wpAnyH_take (i := 14) (oi := ⟨some 31, _, _, _, _, _⟩) (v := ?_) rfl (by kernel_rfl) (by kernel_rfl) (by kernel_rfl) (fun _ _ _ h => h) (Or.inl ⟨by rfl, ?_⟩) (by assumption) ?_
            rotate_left
            · (intro w hSw; (try dsimp only at hSw); obtain ⟨⟨⟨s0, s1, s2, s3, s4⟩, s5, s6⟩, s7, s8⟩ := hSw; go_simp <;> with_reducible rfl)
            try simp only [Act.put]
            try simp only [List.setIfInBounds_toArray]
            try simp only [List.set_cons_succ]
            try simp only [List.set_cons_zero]
            refine wpAnyH_ready (rs := [15]) (by kernel_rfl) (by simp) ?_
            refine AllReadyH.cons (o := ⟨some 32, _, _, _, _, _⟩) rfl (fun K hK => ?_) AllReadyH.nil
            go_simp
            go_at_call 121
            refine (HLk.out _).mono ?_
            rintro e w4 ⟨rfl, hb4⟩
            have hb5 : Below wx.heap.size wx w4 := hb3.trans (hb4.mono hb3.size)
            go_wp2_with fail
            refine hK.out _ _ ?_ (fun hHeld2 => ?_)
            · exact ⟨⟨(HS.out _ hb5).1, (HS.out _ hb5).2.1⟩, (HS.out _ hb5).2.2 m hm2⟩
            clear hK K
            try simp only [Act.put]
            try simp only [List.setIfInBounds_toArray]
            try simp only [List.set_cons_succ]
            try simp only [List.set_cons_zero]
            refine wpAnyH_take (i := 16) (oi := ⟨some 33, _, _, _, _, _⟩) (v := ?_) rfl (by kernel_rfl) (by kernel_rfl) (by kernel_rfl) (fun _ _ _ h => h) (Or.inl ⟨by rfl, ?_⟩) (by assumption) ?_
            rotate_left
            · (intro w hSw; (try dsimp only at hSw); obtain ⟨⟨⟨s0, s1, s2, s3, s4⟩, s5, s6⟩, s7, s8⟩ := hSw; go_simp <;> with_reducible rfl)
            try simp only [Act.put]
            try simp only [List.setIfInBounds_toArray]
            try simp only [List.set_cons_succ]
            try simp only [List.set_cons_zero]
            refine wpAnyH_take (i := 17) (oi := ⟨some 34, _, _, _, _, _⟩) (v := ?_) rfl (by kernel_rfl) (by kernel_rfl) (by kernel_rfl) (fun _ _ _ h => h) (Or.inl ⟨by rfl, ?_⟩) (by assumption) ?_
            rotate_left
            · (intro w hSw; (try dsimp only at hSw); obtain ⟨⟨⟨s0, s1, s2, s3, s4⟩, s5, s6⟩, s7, s8⟩ := hSw; go_simp <;> with_reducible rfl)
            try simp only [Act.put]
            try simp only [List.setIfInBounds_toArray]
            try simp only [List.set_cons_succ]
            try simp only [List.set_cons_zero]
            refine wpAnyH_take (i := 18) (oi := ⟨some 35, _, _, _, _, _⟩) (v := ?_) rfl (by kernel_rfl) (by kernel_rfl) (by kernel_rfl) (fun _ _ _ h => h) (Or.inl ⟨by rfl, ?_⟩) (by assumption) ?_
            rotate_left
            · (intro w hSw; (try dsimp only at hSw); obtain ⟨⟨⟨s0, s1, s2, s3, s4⟩, s5, s6⟩, s7, s8⟩ := hSw; go_simp <;> with_reducible rfl)
            try simp only [Act.put]
            try simp only [List.setIfInBounds_toArray]
            try simp only [List.set_cons_succ]
            try simp only [List.set_cons_zero]
            refine wpAnyH_done (by kernel_rfl) ?_ _
            refine NoPanic.normal ?_
            all_goals go_wp2
            all_goals go_ret
            all_goals exact ⟨Pl.ret_bool HN.out.symm, hb0.trans ((HBw.out _ hb5).mono (by omega))⟩
    · go_wp2
      go_ret
      exact ⟨Pl.ret_bool (HY.out (fun j hj => HK.out j (by omega))).symm, hb0.trans (hbr.mono (by omega))⟩
end Go.Proofs.YtfodabbmjggieaaGreat
namespace Go.Proofs.YtfodabbmjggieaaGreat
open Go.RowKit
set_option linter.unusedVariables false

theorem pcheck_any (r : Pl.R) (B : Nat) (w : World) (hw : Pl.Wf r) (he : Pl.Ints w B r.eA r.p.ex) (hbl : Pl.Sts w B r.bA r.p.bl) (hB : B ≤ w.heap.size) :
    Calls Tryz.prog 68 #[Pl.pv r] w fun e w' => e = .returned (.int .i64 (Pl.code r.p)) ∧ Below w.heap.size w w' := by
  have HE : Hid (Pl.code r.p = if (Pl.rowsOk r.p && Pl.lettersOk r.p.lt && Pl.exitsOk r.p && Pl.blockedOk r.p) = true then 0 else 4) := show _ = _ by rfl
  have H1 := Lib.hid (fun w => rightRows_any r w)
  have H2 := Lib.hid (fun w => rightLetters_any r.p.lt w hw.s)
  have H3 : Hid (∀ w', Below w.heap.size w w' → _) := fun w' (hb : Below w.heap.size w w') => rightExits_any r B w' hw (he.below hb hB) (Nat.le_trans hB hb.size)
  have H4 : Hid (∀ w', Below w.heap.size w w' → _) := fun w' (hb : Below w.heap.size w w') => rightBlocked_any r B w' hw (hbl.below hb hB) (Nat.le_trans hB hb.size)
  have HPN := Lib.hid (Pl.Pc.new r w)
  generalize Pl.rowsOk r.p = q1 at *
  generalize Pl.lettersOk r.p.lt = q2 at *
  generalize Pl.exitsOk r.p = q3 at *
  generalize Pl.blockedOk r.p = q4 at *
  generalize Pl.code r.p = res at *
  clear hw he hbl
  obtain ⟨⟨fr, la, lt, ex, bl⟩, eA, ec, bA, bc⟩ := r
  unfold Pl.pv at *
  unfold Pl.Pc at *
  simp only at *
  obtain ⟨w1, ew1⟩ : ∃ w1, w1 = w.alloc (.cells #[.int .i64 fr, .int .i64 la, .string lt, .slice eA ex.length ec, .slice bA bl.length bc] 74) := ⟨_, rfl⟩
  have hb0 : Below w.heap.size w w1 := by rw [ew1]; exact (Below.refl w.heap.size w).alloc (Nat.le_refl _) _
  have hz1 : w.heap.size < w1.heap.size := by rw [ew1]; simp
  rw [← ew1] at HPN
  have HP : Hid (∀ w', Below w1.heap.size w1 w' → (w'.cell? ⟨w.heap.size, 0, none⟩ = some (.int .i64 fr) ∧ w'.cell? ⟨w.heap.size, 1, none⟩ = some (.int .i64 la) ∧ w'.cell? ⟨w.heap.size, 2, none⟩ = some (.string lt) ∧ w'.cell? ⟨w.heap.size, 3, none⟩ = some (.slice eA ex.length ec) ∧ w'.cell? ⟨w.heap.size, 4, none⟩ = some (.slice bA bl.length bc))) := fun w' hb => Pl.Pc.below (r := ⟨⟨fr, la, lt, ex, bl⟩, eA, ec, bA, bc⟩) HPN.out hb hz1
  obtain ⟨a0, a1, a2, a3, a4⟩ := HPN.out
  have HZ : Hid (∀ w', Below w1.heap.size w1 w' → Below w.heap.size w w') := fun w' hb => hb0.trans (hb.mono (Nat.le_of_lt hz1))
  cases q1
  · have HN : Hid (res = 4) := show _ = _ by rw [HE.out]; rfl
    subst ew1
    go_enter Tryz.func68, Tryz.ntmps68
    go_wp2_with (go_at_call 87; refine (H1.out _).mono ?_; rintro e w2 ⟨rfl, hb2⟩)
    go_ret
    exact ⟨Pl.ret_int HN.out.symm, HZ.out _ hb2⟩
  cases q2
  · have HN : Hid (res = 4) := show _ = _ by rw [HE.out]; rfl
    subst ew1
    go_enter Tryz.func68, Tryz.ntmps68
    go_wp2_with (first
      | (go_at_call 87; refine (H1.out _).mono ?_; rintro e w2 ⟨rfl, hb2⟩; obtain ⟨b0, b1, b2, b3, b4⟩ := HP.out w2 hb2)
      | (go_at_call 88; refine (H2.out _).mono ?_; rintro e w3 ⟨rfl, rfl⟩))
    go_ret
    exact ⟨Pl.ret_int HN.out.symm, HZ.out _ hb2⟩
  cases q3
  · have HN : Hid (res = 4) := show _ = _ by rw [HE.out]; rfl
    subst ew1
    go_enter Tryz.func68, Tryz.ntmps68
    go_wp2_with (first
      | (go_at_call 87; refine (H1.out _).mono ?_; rintro e w2 ⟨rfl, hb2⟩; obtain ⟨b0, b1, b2, b3, b4⟩ := HP.out w2 hb2)
      | (go_at_call 88; refine (H2.out _).mono ?_; rintro e w3 ⟨rfl, rfl⟩)
      | (go_at_call 89; refine (H3.out _ (HZ.out _ hb2)).mono ?_; rintro e w3 ⟨rfl, hb3⟩; have hb4 := hb2.trans (hb3.mono hb2.size); obtain ⟨c0, c1, c2, c3, c4⟩ := HP.out w3 hb4))
    go_ret
    exact ⟨Pl.ret_int HN.out.symm, HZ.out _ hb4⟩
  have HN : Hid (res = if q4 = true then 0 else 4) := show _ = _ by rw [HE.out]; simp
  cases q4
  · subst ew1
    go_enter Tryz.func68, Tryz.ntmps68
    go_wp2_with (first
      | (go_at_call 87; refine (H1.out _).mono ?_; rintro e w2 ⟨rfl, hb2⟩; obtain ⟨b0, b1, b2, b3, b4⟩ := HP.out w2 hb2)
      | (go_at_call 88; refine (H2.out _).mono ?_; rintro e w3 ⟨rfl, rfl⟩)
      | (go_at_call 89; refine (H3.out _ (HZ.out _ hb2)).mono ?_; rintro e w3 ⟨rfl, hb3⟩; have hb4 := hb2.trans (hb3.mono hb2.size); obtain ⟨c0, c1, c2, c3, c4⟩ := HP.out w3 hb4)
      | (go_at_call 90; refine (H4.out _ (HZ.out _ hb4)).mono ?_; rintro e w5 ⟨rfl, hb5⟩; have hb6 := hb4.trans (hb5.mono hb4.size)))
    go_ret
    exact ⟨Pl.ret_int HN.out.symm, HZ.out _ hb6⟩
  · subst ew1
    go_enter Tryz.func68, Tryz.ntmps68
    go_wp2_with (first
      | (go_at_call 87; refine (H1.out _).mono ?_; rintro e w2 ⟨rfl, hb2⟩; obtain ⟨b0, b1, b2, b3, b4⟩ := HP.out w2 hb2)
      | (go_at_call 88; refine (H2.out _).mono ?_; rintro e w3 ⟨rfl, rfl⟩)
      | (go_at_call 89; refine (H3.out _ (HZ.out _ hb2)).mono ?_; rintro e w3 ⟨rfl, hb3⟩; have hb4 := hb2.trans (hb3.mono hb2.size); obtain ⟨c0, c1, c2, c3, c4⟩ := HP.out w3 hb4)
      | (go_at_call 90; refine (H4.out _ (HZ.out _ hb4)).mono ?_; rintro e w5 ⟨rfl, hb5⟩; have hb6 := hb4.trans (hb5.mono hb4.size)))
    go_ret
    exact ⟨Pl.ret_int HN.out.symm, HZ.out _ hb6⟩
end Go.Proofs.YtfodabbmjggieaaGreat
namespace Go.Proofs.YtfodabbmjggieaaGreat
open Go.RowKit
set_option linter.unusedVariables false

namespace Pl
theorem ix_none {α : Type} [BEq α] [LawfulBEq α] {l : List α} {x : α} {k : Nat} (hk : l.length ≤ k) (h : ∀ j (hj : j < l.length), j < k → l[j] ≠ x) : l.contains x = false := by
  rw [Bool.eq_false_iff]
  intro hc
  rw [List.contains_iff_mem] at hc
  obtain ⟨j, hj, e⟩ := List.getElem_of_mem hc
  exact h j hj (by omega) e
theorem ix_some {α : Type} [BEq α] [LawfulBEq α] {l : List α} {x : α} {k : Nat} (hk : k < l.length) (h : l[k] = x) : l.contains x = true := by
  rw [List.contains_iff_mem, ← h]
  exact List.getElem_mem hk
end Pl
theorem indexInts_any (A : Option Addr) (l : List Int) (cap B : Nat) (x : Int) (w : World) (h : Pl.Ints w B A l) (hl : l.length ≤ 9223372036854775807) :
    Calls Tryz.prog 138 #[.slice A l.length cap, .int .i64 x] w fun e w' => (∃ i : Int, e = .returned (.int .i64 i) ∧ decide (0 ≤ i) = l.contains x) ∧ w = w' := by
  have HI := Lib.hid h
  have HY : Hid (∀ k, k < l.length → Pl.gI l k = x → l.contains x = true) := fun k hk e => Pl.ix_some hk (by rw [Pl.gI_get _ _ hk]; exact e)
  have HNo : Hid (∀ k, l.length ≤ k → (∀ j, j < k → j < l.length → Pl.gI l j ≠ x) → l.contains x = false) := fun k hk hf => Pl.ix_none hk (fun j hj hjk => by rw [Pl.gI_get _ _ hj]; exact hf j hjk hj)
  generalize l.contains x = res at *
  clear h
  go_enter Tryz.func138, Tryz.ntmps138
  go_wp2
  go_loop [8] (fun i => ∃ k : Nat, k ≤ l.length ∧ i = .int .i64 k ∧ Hid (∀ j, j < k → j < l.length → Pl.gI l j ≠ x)) (fun i => l.length - (intOf i).toNat)
  case atStart => exact ⟨0, by omega, rfl, fun j hj => absurd hj (by omega)⟩
  case round =>
    obtain ⟨k, hk, rfl, HK⟩ := hrel
    by_cases hlt : k < l.length
    · obtain ⟨b, off, hA, hb, hc⟩ := HI.out (by omega)
      subst hA
      have c0 := hc k hlt
      clear hc
      by_cases he : Pl.gI l k = x
      · have HN := Lib.hid (HY.out k hlt he)
        have hd : (x == Pl.gI l k) = true := by simp [he]
        clear he
        go_wp2
        go_ret
        exact ⟨⟨k, rfl, by rw [HN.out]; simp⟩, rfl⟩
      · have HN : Hid (∀ j, j < k + 1 → j < l.length → Pl.gI l j ≠ x) := fun j hj hl => by
          rcases Nat.lt_or_ge j k with hj' | hj'
          · exact HK.out j hj' hl
          · rw [show j = k by omega]; exact he
        have hd : (x == Pl.gI l k) = false := by simp; exact fun e => he e.symm
        clear he
        go_wp2
        go_round
        case rel => exact ⟨k + 1, by omega, by go_num, HN⟩
        case measure => simp [intOf]; omega
    · go_wp2
      go_ret
      exact ⟨⟨-1, rfl, by rw [HNo.out k (by omega) HK.out]; rfl⟩, rfl⟩
theorem containsInts_any (A : Option Addr) (l : List Int) (cap B : Nat) (x : Int) (w : World) (h : Pl.Ints w B A l) (hl : l.length ≤ 9223372036854775807) :
    Calls Tryz.prog 123 #[.slice A l.length cap, .int .i64 x] w fun e w' => e = .returned (.bool (l.contains x)) ∧ w = w' := by
  have H1 := Lib.hid (indexInts_any A l cap B x w h hl)
  clear h
  generalize l.contains x = res at *
  go_enter Tryz.func123, Tryz.ntmps123
  go_wp2_with (go_at_call 138; refine H1.out.mono ?_; rintro e w' ⟨⟨i, rfl, hi⟩, rfl⟩)
  go_ret
  exact ⟨Pl.ret_bool (by first | exact hi | rfl), rfl⟩
set_option maxHeartbeats 1000000 in
theorem indexSeats_any (A : Option Addr) (l : List Pl.S) (cap B : Nat) (x : Pl.S) (w : World) (h : Pl.Sts w B A l) (hB : B ≤ w.heap.size) (hl : l.length ≤ 9223372036854775807) :
    Calls Tryz.prog 122 #[.slice A l.length cap, Pl.sv x] w fun e w' => (∃ i : Int, e = .returned (.int .i64 i) ∧ decide (0 ≤ i) = l.contains x) ∧ Below w.heap.size w w' := by
  have HI := Lib.hid h
  obtain ⟨x1, x2⟩ := x
  have HY : Hid (∀ k, k < l.length → Pl.gR l k = x1 → Pl.gC l k = x2 → l.contains (x1, x2) = true) := fun k hk e1 e2 => Pl.ix_some hk (by rw [Pl.gS _ _ hk, e1, e2])
  have HNo : Hid (∀ k, l.length ≤ k → (∀ j, j < k → j < l.length → ¬ (Pl.gR l j = x1 ∧ Pl.gC l j = x2)) → l.contains (x1, x2) = false) := fun k hk hf => Pl.ix_none hk (fun j hj hjk => by rw [Pl.gS _ _ hj]; intro e; injection e with e1 e2; exact hf j hjk hj ⟨e1, e2⟩)
  generalize l.contains (x1, x2) = res at *
  clear h
  unfold Pl.sv
  obtain ⟨w1, ew1⟩ : ∃ w1, w1 = w.alloc (.cells #[.int .i64 x1, .int .u8 x2] 37) := ⟨_, rfl⟩
  have hb0 : Below w.heap.size w w1 := by rw [ew1]; exact (Below.refl w.heap.size w).alloc (Nat.le_refl _) _
  have hz1 : w.heap.size < w1.heap.size := by rw [ew1]; simp
  have HSN : Hid (Pl.Sc (x1, x2) w.heap.size 0 w1) := by rw [ew1]; exact Pl.Sc.new (x1, x2) w
  go_enter Tryz.func122, Tryz.ntmps122
  go_wp2
  rw [← ew1]
  clear ew1
  go_loopw [8] (fun i wr => ∃ k n : Nat, k ≤ l.length ∧ i = .int .i64 k ∧ Hid (∀ j, j < k → j < l.length → ¬ (Pl.gR l j = x1 ∧ Pl.gC l j = x2)) ∧ wr = w1.drewN n) (fun i _ => l.length - (intOf i).toNat)
  case atStart => exact ⟨0, 0, by omega, rfl, fun j hj => absurd hj (by omega), rfl⟩
  case round =>
    obtain ⟨k, n, hk, rfl, HK, rfl⟩ := hrel
    by_cases hlt : k < l.length
    · obtain ⟨b, off, hA, hb, hc⟩ := HI.out (by omega)
      subst hA
      have c0 : ∀ q, (w1.drewN q).cell? ⟨b, off + k * 2, none⟩ = some (.int .i64 (Pl.gR l k)) := fun q => (hb0.cell (p := ⟨b, _, none⟩) (by show b < _; omega)).trans (hc k hlt).1
      have c1 : ∀ q, (w1.drewN q).cell? ⟨b, off + k * 2 + 1, none⟩ = some (.int .u8 (Pl.gC l k)) := fun q => (hb0.cell (p := ⟨b, _, none⟩) (by show b < _; omega)).trans (hc k hlt).2
      have d0 : ∀ q, (w1.drewN q).cell? ⟨w.heap.size, 0, none⟩ = some (.int .i64 x1) := fun q => HSN.out.1
      have d1 : ∀ q, (w1.drewN q).cell? ⟨w.heap.size, 1, none⟩ = some (.int .u8 x2) := fun q => HSN.out.2
      clear hc
      by_cases he : Pl.gR l k = x1 ∧ Pl.gC l k = x2
      · have HN := Lib.hid (HY.out k hlt he.1 he.2)
        rw [he.1] at c0
        rw [he.2] at c1
        clear he
        go_wp2
        go_quiet (fail)
        go_wp2
        go_ret
        exact ⟨⟨k, rfl, by rw [HN.out]; simp⟩, Pl.below_drewN (Pl.below_drewN hb0 _) _⟩
      · have HN : Hid (∀ j, j < k + 1 → j < l.length → ¬ (Pl.gR l j = x1 ∧ Pl.gC l j = x2)) := fun j hj hl => by
          rcases Nat.lt_or_ge j k with hj' | hj'
          · exact HK.out j hj' hl
          · rw [show j = k by omega]; exact he
        by_cases h1 : Pl.gR l k = x1
        · rw [h1] at c0
          have h2 : ¬ x2 = Pl.gC l k := fun e => he ⟨h1, e.symm⟩
          have hd : (x2 == Pl.gC l k) = false := by simp; exact h2
          clear he h1
          go_wp2
          go_quiet (fail)
          go_wp2
          go_roundw
          case rel => exact ⟨k + 1, _, by omega, by go_num, HN, rfl⟩
          case measure => simp [intOf]; omega
        · have h2 : ¬ x1 = Pl.gR l k := fun e => h1 e.symm
          have hd : (x1 == Pl.gR l k) = false := by simp; exact h2
          clear he h1
          go_wp2
          go_quiet (fail)
          go_wp2
          go_roundw
          case rel => exact ⟨k + 1, _, by omega, by go_num, HN, rfl⟩
          case measure => simp [intOf]; omega
    · go_wp2
      go_ret
      exact ⟨⟨-1, rfl, by rw [HNo.out k (by omega) HK.out]; rfl⟩, Pl.below_drewN hb0 _⟩
end Go.Proofs.YtfodabbmjggieaaGreat
namespace Go.Proofs.YtfodabbmjggieaaGreat
open Go.RowKit
set_option linter.unusedVariables false

theorem containsSeats_any (A : Option Addr) (l : List Pl.S) (cap B : Nat) (x : Pl.S) (w : World) (h : Pl.Sts w B A l) (hB : B ≤ w.heap.size) (hl : l.length ≤ 9223372036854775807) :
    Calls Tryz.prog 91 #[.slice A l.length cap, Pl.sv x] w fun e w' => e = .returned (.bool (l.contains x)) ∧ Below w.heap.size w w' := by
  have bA := (Below.refl w.heap.size w).alloc (Nat.le_refl _) (.cells #[.int .i64 x.1, .int .u8 x.2] 37)
  have H1 := Lib.hid (indexSeats_any A l cap B x (w.alloc (.cells #[.int .i64 x.1, .int .u8 x.2] 37)) (h.below bA hB) (Nat.le_trans hB bA.size) hl)
  clear h
  generalize l.contains x = res at *
  obtain ⟨x1, x2⟩ := x
  unfold Pl.sv at *
  simp only at *
  go_enter Tryz.func91, Tryz.ntmps91
  go_wp2_with (go_at_call 122; refine H1.out.mono ?_; rintro e w' ⟨⟨i, rfl, hi⟩, hb⟩)
  go_ret
  exact ⟨Pl.ret_bool (by first | exact hi | rfl), bA.trans (hb.mono (by simp))⟩
namespace Pl
/-- A letter behind a text, where b. -/
def ap (b : Bool) (c : UInt8) (s : ByteArray) : ByteArray := if b then s ++ ⟨#[c]⟩ else s
def win (p : P) (i : Nat) : Bool := decide (i = 0) || decide (i + 1 = p.lt.size)
def ail (p : P) (i : Nat) : Bool := (decide (0 < i) && decide (Cd.bt p.lt (i - 1) = 46)) || (decide (i + 1 < p.lt.size) && decide (Cd.bt p.lt (i + 1) = 46))
def marks (p : P) (row : Int) (i : Nat) : ByteArray := ap (p.ex.contains row) 69 (ap (ail p i) 65 (ap (win p i) 87 ⟨#[]⟩))
theorem ret_str {a b : ByteArray} (h : a = b) : Ending.returned (.string a) = .returned (.string b) := by rw [h]
end Pl
set_option maxHeartbeats 2000000 in
set_option maxRecDepth 20000 in
theorem marks_any (r : Pl.R) (row : Int) (i B : Nat) (w : World) (hs : r.p.lt.size ≤ 9223372036854775807) (hi : i < r.p.lt.size) (he : Pl.Ints w B r.eA r.p.ex) (hB : B ≤ w.heap.size) (hel : r.p.ex.length ≤ 9223372036854775807) :
    Calls Tryz.prog 92 #[Pl.pv r, .int .i64 row, .int .i64 i] w fun e w' => e = .returned (.string (Pl.marks r.p row i)) ∧ Below w.heap.size w w' := by
  have hb := Cd.get_bt r.p.lt
  have bA := (Below.refl w.heap.size w).alloc (Nat.le_refl _) (.cells #[.int .i64 r.p.fr, .int .i64 r.p.la, .string r.p.lt, .slice r.eA r.p.ex.length r.ec, .slice r.bA r.p.bl.length r.bc] 74)
  have H1 := Lib.hid (containsInts_any r.eA r.p.ex r.ec B row (w.alloc (.cells #[.int .i64 r.p.fr, .int .i64 r.p.la, .string r.p.lt, .slice r.eA r.p.ex.length r.ec, .slice r.bA r.p.bl.length r.bc] 74)) (he.below bA hB) hel)
  have HE : Hid (Pl.marks r.p row i = Pl.ap (r.p.ex.contains row) 69 (Pl.ap (Pl.ail r.p i) 65 (Pl.ap (Pl.win r.p i) 87 ⟨#[]⟩))) := show _ = _ by rfl
  have HW : Hid (Pl.win r.p i = (decide (i = 0) || decide (i + 1 = r.p.lt.size))) := show _ = _ by rfl
  have HA : Hid (Pl.ail r.p i = ((decide (0 < i) && decide (Cd.bt r.p.lt (i - 1) = 46)) || (decide (i + 1 < r.p.lt.size) && decide (Cd.bt r.p.lt (i + 1) = 46)))) := show _ = _ by rfl
  clear he
  generalize Pl.marks r.p row i = res at *
  generalize Pl.win r.p i = qw at *
  generalize Pl.ail r.p i = qa at *
  generalize r.p.ex.contains row = qe at *
  obtain ⟨⟨fr, la, lt, ex, bl⟩, eA, ec, bA', bc⟩ := r
  unfold Pl.pv
  simp only at *
  have hw1 : IntKind.i64.wrap ((lt.size : Int) - 1) = (lt.size : Int) - 1 := IntWalk.i64_in _ (by omega)
  by_cases h0 : i = 0
  · subst h0
    by_cases hl : 1 = lt.size
    · have hd : decide ((0 : Int) < (lt.size : Int) - 1) = false := by simp; omega
      have HN : Hid (res = Pl.ap qe 69 (Pl.ap false 65 (Pl.ap true 87 ⟨#[]⟩))) := show _ = _ by
        have e1 := HW.out
        have e2 := HA.out
        rw [HE.out, show qa = false by rw [e2]; simp [*] <;> omega, show qw = true by rw [e1]; simp [*] <;> omega]
      clear HE HW HA
      try clear hl
      cases qe
      · go_enter Tryz.func92, Tryz.ntmps92
        go_wp2_with (go_at_call 123; refine H1.out.mono ?_; rintro e w' ⟨rfl, rfl⟩)
        all_goals first | (go_ret; exact ⟨Pl.ret_str (by rw [HN.out]; rfl), bA⟩) | (exfalso; simp at *; omega)
      · go_enter Tryz.func92, Tryz.ntmps92
        go_wp2_with (go_at_call 123; refine H1.out.mono ?_; rintro e w' ⟨rfl, rfl⟩)
        all_goals first | (go_ret; exact ⟨Pl.ret_str (by rw [HN.out]; rfl), bA⟩) | (exfalso; simp at *; omega)
    · have hd : decide ((0 : Int) < (lt.size : Int) - 1) = true := by simp; omega
      by_cases hr : Cd.bt lt 1 = 46
      · have hx : (Cd.bt lt 1 == 46) = true := by simp [hr]
        have HN : Hid (res = Pl.ap qe 69 (Pl.ap true 65 (Pl.ap true 87 ⟨#[]⟩))) := show _ = _ by
          have e1 := HW.out
          have e2 := HA.out
          rw [HE.out, show qa = true by rw [e2]; simp [*] <;> omega, show qw = true by rw [e1]; simp [*] <;> omega]
        clear HE HW HA
        try clear hl
        cases qe
        · go_enter Tryz.func92, Tryz.ntmps92
          go_wp2_with (go_at_call 123; refine H1.out.mono ?_; rintro e w' ⟨rfl, rfl⟩)
          all_goals first | (go_ret; exact ⟨Pl.ret_str (by rw [HN.out]; rfl), bA⟩) | (exfalso; simp at *; omega)
        · go_enter Tryz.func92, Tryz.ntmps92
          go_wp2_with (go_at_call 123; refine H1.out.mono ?_; rintro e w' ⟨rfl, rfl⟩)
          all_goals first | (go_ret; exact ⟨Pl.ret_str (by rw [HN.out]; rfl), bA⟩) | (exfalso; simp at *; omega)
      · have hx : (Cd.bt lt 1 == 46) = false := by simp [hr]
        have HN : Hid (res = Pl.ap qe 69 (Pl.ap false 65 (Pl.ap true 87 ⟨#[]⟩))) := show _ = _ by
          have e1 := HW.out
          have e2 := HA.out
          rw [HE.out, show qa = false by rw [e2]; simp [*] <;> omega, show qw = true by rw [e1]; simp [*] <;> omega]
        clear HE HW HA
        try clear hl
        cases qe
        · go_enter Tryz.func92, Tryz.ntmps92
          go_wp2_with (go_at_call 123; refine H1.out.mono ?_; rintro e w' ⟨rfl, rfl⟩)
          all_goals first | (go_ret; exact ⟨Pl.ret_str (by rw [HN.out]; rfl), bA⟩) | (exfalso; simp at *; omega)
        · go_enter Tryz.func92, Tryz.ntmps92
          go_wp2_with (go_at_call 123; refine H1.out.mono ?_; rintro e w' ⟨rfl, rfl⟩)
          all_goals first | (go_ret; exact ⟨Pl.ret_str (by rw [HN.out]; rfl), bA⟩) | (exfalso; simp at *; omega)
  · obtain ⟨m, hm⟩ : ∃ m, i = m + 1 := ⟨i - 1, by omega⟩
    subst hm
    have hx0 : (((m : Int) + 1) == 0) = false := beq_false_of_ne (by omega)
    have hd0 : decide ((0 : Int) < (m : Int) + 1) = true := decide_eq_true (by omega)
    have hq : (m : Int) + 1 - 1 = (m : Int) := by omega
    have hq2 : IntKind.i64.wrap (m : Int) = (m : Int) := IntWalk.i64_in _ (by omega)
    rw [Nat.add_sub_cancel] at HA
    by_cases hlf : Cd.bt lt m = 46
    · have hx : (Cd.bt lt m == 46) = true := by simp [hlf]
      by_cases hl : m + 1 + 1 = lt.size
      · have hy : ((m : Int) + 1 == (lt.size : Int) - 1) = true := by simp; omega
        have HN : Hid (res = Pl.ap qe 69 (Pl.ap true 65 (Pl.ap true 87 ⟨#[]⟩))) := show _ = _ by
          have e1 := HW.out
          have e2 := HA.out
          rw [HE.out, show qa = true by rw [e2]; simp [*] <;> omega, show qw = true by rw [e1]; simp [*] <;> omega]
        clear HE HW HA
        try clear hl
        cases qe
        · go_enter Tryz.func92, Tryz.ntmps92
          go_wp2_with (go_at_call 123; refine H1.out.mono ?_; rintro e w' ⟨rfl, rfl⟩)
          all_goals first | (go_ret; exact ⟨Pl.ret_str (by rw [HN.out]; rfl), bA⟩) | (exfalso; simp at *; omega)
        · go_enter Tryz.func92, Tryz.ntmps92
          go_wp2_with (go_at_call 123; refine H1.out.mono ?_; rintro e w' ⟨rfl, rfl⟩)
          all_goals first | (go_ret; exact ⟨Pl.ret_str (by rw [HN.out]; rfl), bA⟩) | (exfalso; simp at *; omega)
      · have hy : ((m : Int) + 1 == (lt.size : Int) - 1) = false := by simp; omega
        have HN : Hid (res = Pl.ap qe 69 (Pl.ap true 65 (Pl.ap false 87 ⟨#[]⟩))) := show _ = _ by
          have e1 := HW.out
          have e2 := HA.out
          rw [HE.out, show qa = true by rw [e2]; simp [*] <;> omega, show qw = false by rw [e1]; simp [*] <;> omega]
        clear HE HW HA
        try clear hl
        cases qe
        · go_enter Tryz.func92, Tryz.ntmps92
          go_wp2_with (go_at_call 123; refine H1.out.mono ?_; rintro e w' ⟨rfl, rfl⟩)
          all_goals first | (go_ret; exact ⟨Pl.ret_str (by rw [HN.out]; rfl), bA⟩) | (exfalso; simp at *; omega)
        · go_enter Tryz.func92, Tryz.ntmps92
          go_wp2_with (go_at_call 123; refine H1.out.mono ?_; rintro e w' ⟨rfl, rfl⟩)
          all_goals first | (go_ret; exact ⟨Pl.ret_str (by rw [HN.out]; rfl), bA⟩) | (exfalso; simp at *; omega)
    · have hx : (Cd.bt lt m == 46) = false := by simp [hlf]
      by_cases hl : m + 1 + 1 = lt.size
      · have hy : ((m : Int) + 1 == (lt.size : Int) - 1) = true := by simp; omega
        have hd : decide ((m : Int) + 1 < (lt.size : Int) - 1) = false := by simp; omega
        have HN : Hid (res = Pl.ap qe 69 (Pl.ap false 65 (Pl.ap true 87 ⟨#[]⟩))) := show _ = _ by
          have e1 := HW.out
          have e2 := HA.out
          rw [HE.out, show qa = false by rw [e2]; simp [*] <;> omega, show qw = true by rw [e1]; simp [*] <;> omega]
        clear HE HW HA
        try clear hl
        cases qe
        · go_enter Tryz.func92, Tryz.ntmps92
          go_wp2_with (go_at_call 123; refine H1.out.mono ?_; rintro e w' ⟨rfl, rfl⟩)
          all_goals first | (go_ret; exact ⟨Pl.ret_str (by rw [HN.out]; rfl), bA⟩) | (exfalso; simp at *; omega)
        · go_enter Tryz.func92, Tryz.ntmps92
          go_wp2_with (go_at_call 123; refine H1.out.mono ?_; rintro e w' ⟨rfl, rfl⟩)
          all_goals first | (go_ret; exact ⟨Pl.ret_str (by rw [HN.out]; rfl), bA⟩) | (exfalso; simp at *; omega)
      · have hy : ((m : Int) + 1 == (lt.size : Int) - 1) = false := by simp; omega
        have hd : decide ((m : Int) + 1 < (lt.size : Int) - 1) = true := by simp; omega
        have hq3 : (m : Int) + 1 + 1 = ((m + 2 : Nat) : Int) := by omega
        have hq4 : IntKind.i64.wrap ((m + 2 : Nat) : Int) = ((m + 2 : Nat) : Int) := IntWalk.i64_in _ (by omega)
        by_cases hr : Cd.bt lt (m + 1 + 1) = 46
        · have hx2 : (Cd.bt lt (m + 2) == 46) = true := by simp [hr]
          have HN : Hid (res = Pl.ap qe 69 (Pl.ap true 65 (Pl.ap false 87 ⟨#[]⟩))) := show _ = _ by
            have e1 := HW.out
            have e2 := HA.out
            rw [HE.out, show qa = true by rw [e2]; simp [*] <;> omega, show qw = false by rw [e1]; simp [*] <;> omega]
          clear HE HW HA
          try clear hl
          cases qe
          · go_enter Tryz.func92, Tryz.ntmps92
            go_wp2_with (go_at_call 123; refine H1.out.mono ?_; rintro e w' ⟨rfl, rfl⟩)
            all_goals first | (go_ret; exact ⟨Pl.ret_str (by rw [HN.out]; rfl), bA⟩) | (exfalso; simp at *; omega)
          · go_enter Tryz.func92, Tryz.ntmps92
            go_wp2_with (go_at_call 123; refine H1.out.mono ?_; rintro e w' ⟨rfl, rfl⟩)
            all_goals first | (go_ret; exact ⟨Pl.ret_str (by rw [HN.out]; rfl), bA⟩) | (exfalso; simp at *; omega)
        · have hx2 : (Cd.bt lt (m + 2) == 46) = false := by simp; exact hr
          have HN : Hid (res = Pl.ap qe 69 (Pl.ap false 65 (Pl.ap false 87 ⟨#[]⟩))) := show _ = _ by
            have e1 := HW.out
            have e2 := HA.out
            rw [HE.out, show qa = false by rw [e2]; simp [*] <;> omega, show qw = false by rw [e1]; simp [*] <;> omega]
          clear HE HW HA
          try clear hl
          cases qe
          · go_enter Tryz.func92, Tryz.ntmps92
            go_wp2_with (go_at_call 123; refine H1.out.mono ?_; rintro e w' ⟨rfl, rfl⟩)
            all_goals first | (go_ret; exact ⟨Pl.ret_str (by rw [HN.out]; rfl), bA⟩) | (exfalso; simp at *; omega)
          · go_enter Tryz.func92, Tryz.ntmps92
            go_wp2_with (go_at_call 123; refine H1.out.mono ?_; rintro e w' ⟨rfl, rfl⟩)
            all_goals first | (go_ret; exact ⟨Pl.ret_str (by rw [HN.out]; rfl), bA⟩) | (exfalso; simp at *; omega)
end Go.Proofs.YtfodabbmjggieaaGreat
namespace Go.Proofs.YtfodabbmjggieaaGreat
open Go.RowKit Go.WideMaps
set_option linter.unusedVariables false

namespace Pl
theorem rowKey : (37 : TypeId) < Tryz.prog.types.size := of_decide_eq_true (by kernel_rfl)
theorem wideKey : (match Tryz.prog.underlying 37 with | some (.array _ _) | some (.struct _) => true | _ => false) = true := by kernel_rfl
set_option maxRecDepth 20000 in
theorem lawKey : KeyLaw Tryz.prog 37 := deep_law_laid laidOut (m := 3) (by omega) rowKey (by kernel_rfl) wideKey
theorem cellsKey : Tryz.prog.cellsOf 37 = 2 := by kernel_rfl
theorem fieldsKey : ∃ fs, Tryz.prog.underlying 37 = some (.struct fs) ∧ fs.all (fun f => f.name != "_") = true ∧ fs.toList.map (fun f => (f.type, f.offset)) = [(3, 0), (5, 1)] := by
  have h : (match Tryz.prog.underlying 37 with | some (.struct fs) => fs.all (fun f => f.name != "_") && decide (fs.toList.map (fun f => (f.type, f.offset)) = [(3, 0), (5, 1)]) | _ => false) = true := by kernel_rfl
  split at h
  · rename_i fs he
    simp only [Bool.and_eq_true, decide_eq_true_eq] at h
    exact ⟨fs, he, h.1, h.2⟩
  · cases h
theorem keyType : Tryz.prog.keyType 37 = true := by kernel_rfl
theorem cells1 : Tryz.prog.cellsOf 3 = 1 ∧ Tryz.prog.cellsOf 5 = 1 := ⟨by kernel_rfl, by kernel_rfl⟩
theorem uByte : Tryz.prog.underlying 5 = some (.int .u8) := by kernel_rfl
theorem uInt : Tryz.prog.underlying 3 = some (.int .i64) := by kernel_rfl
theorem succ_of {a : Nat} (k : Nat) (h : k < a) : ∃ n, a = n + 1 := ⟨a - 1, by omega⟩
theorem sizeTys : ∃ n, Tryz.prog.types.size = n + 1 := succ_of 37 rowKey
theorem sv_inj {a b : S} (h : sv a = sv b) : a = b := by
  obtain ⟨a1, a2⟩ := a
  obtain ⟨b1, b2⟩ := b
  simp [sv] at h
  rw [h.1, h.2]
/-- A seat as it may come in. -/
def WS (s : S) : Prop := -9223372036854775808 ≤ s.1 ∧ s.1 ≤ 9223372036854775807 ∧ 0 ≤ s.2 ∧ s.2 ≤ 255
theorem sv_key {s : S} (h : WS s) : Mp.KeyIs Tryz.prog 37 (sv s) := by
  obtain ⟨s1, s2⟩ := s
  obtain ⟨h0, h1, h2, h3⟩ := h
  simp only at h0 h1 h2 h3
  obtain ⟨fs, hu, hn, hf⟩ := fieldsKey
  obtain ⟨n, hz⟩ := sizeTys
  have hfs : ∃ a b, fs.toList = [a, b] ∧ a.type = 3 ∧ a.offset = 0 ∧ b.type = 5 ∧ b.offset = 1 := by
    rcases hl : fs.toList with _ | ⟨a, _ | ⟨b, _ | ⟨c, r⟩⟩⟩ <;> rw [hl] at hf <;> simp at hf
    exact ⟨a, b, rfl, hf.1.1, hf.1.2, hf.2.1, hf.2.2⟩
  obtain ⟨a, b, hl, ha, hao, hb, hbo⟩ := hfs
  have hI : Tryz.prog.keyLits (n + 1) 3 [.int .i64 s1] = some [.int .i64 s1] := by
    simp only [Program.keyLits, uInt]
    rw [if_pos ⟨trivial, Go.WalkArith.wf_i64 ⟨h0, h1⟩⟩]
  have hC : Tryz.prog.keyLits (n + 1) 5 [.int .u8 s2] = some [.int .u8 s2] := by
    simp only [Program.keyLits, uByte]
    rw [if_pos ⟨trivial, Go.WalkArith.wf_u8 ⟨h2, by omega⟩⟩]
  have hL : Tryz.prog.keyLits (Tryz.prog.types.size + 1) 37 [.int .i64 s1, .int .u8 s2] = some [.int .i64 s1, .int .u8 s2] := by
    have hM : (fs.toList.mapM fun q => Tryz.prog.keyLits (n + 1) q.type (([.int .i64 s1, .int .u8 s2] : List Value).drop q.offset |>.take (Tryz.prog.cellsOf q.type))) = some [[.int .i64 s1], [.int .u8 s2]] := by
      rw [hl]
      simp only [List.mapM_cons, List.mapM_nil, ha, hao, hb, hbo, cells1.1, cells1.2, List.drop_zero, List.drop_succ_cons, List.take_succ_cons, List.take_zero, hI, hC]
      rfl
    rw [hz]
    generalize n + 1 = m at hM ⊢
    simp only [Program.keyLits, hu, hM]
    rw [if_pos ⟨by rw [cellsKey]; rfl, hn⟩]
    rfl
  have hv : (sv (s1, s2)).formed Tryz.prog 37 = true := by
    simp [sv, Value.formed, hu, cellsKey]
  refine ⟨.string (keyBytes [.int .i64 s1, .int .u8 s2]), ?_⟩
  unfold keyOf
  rw [hu]
  simp only
  rw [keyType, hv]
  simp only [sv, Value.cells, Bool.and_self, if_true, hL]
  rfl
/-- The cells of seats. -/
def flat (l : List S) : List Value := l.flatMap fun s => [.int .i64 s.1, .int .u8 s.2]
theorem flat_append (a b : List S) : flat (a ++ b) = flat a ++ flat b := by simp [flat]
theorem flat_len (l : List S) : (flat l).length = l.length * 2 := by
  induction l with
  | nil => rfl
  | cons s l ih => simp [flat] at ih ⊢; omega
theorem flat_get : ∀ (l : List S) (j : Nat) (hj : j < l.length), (flat l)[j * 2]? = some (.int .i64 (gR l j)) ∧ (flat l)[j * 2 + 1]? = some (.int .u8 (gC l j))
  | s :: l, 0, _ => ⟨rfl, rfl⟩
  | s :: l, j + 1, hj => by
    have h := flat_get l j (by simpa using hj)
    have e1 : gR (s :: l) (j + 1) = gR l j := rfl
    have e2 : gC (s :: l) (j + 1) = gC l j := rfl
    rw [e1, e2, show (j + 1) * 2 = j * 2 + 2 by omega, ← h.1, ← h.2]
    exact ⟨rfl, rfl⟩
/-- A slice of seats of the call's own. -/
def OwnS (w : World) (base : Nat) (v : Value) (l : List S) : Prop := w.ownsRow base 37 2 v l.length (flat l)
theorem OwnS.sts {w : World} {base : Nat} {v : Value} {l : List S} (h : OwnS w base v l) : ∃ A cap, v = .slice A l.length cap ∧ l.length ≤ cap ∧ Sts w w.heap.size A l := by
  obtain ⟨_, ⟨hv, h0⟩ | ⟨g, cap, cur, hv, hg, hh, hcap, _, hsz, htk⟩⟩ := h
  · exact ⟨none, 0, by rw [h0]; exact hv, by omega, fun h => absurd h (by omega)⟩
  · refine ⟨some ⟨g, 0, none⟩, cap, hv, hcap, fun hl => ⟨g, 0, rfl, Rw.lt_of_some hh, fun j hj => ?_⟩⟩
    obtain ⟨h1, h2⟩ := flat_get l j hj
    rw [← htk, List.getElem?_take_of_lt (by omega)] at h1 h2
    rw [cell_of_row _ _ _ _ _ _ hh, cell_of_row _ _ _ _ _ _ hh, show 0 + j * 2 = j * 2 by omega]
    exact ⟨by simpa using h1, by simpa using h2⟩
theorem OwnS.kept {w w' : World} {base : Nat} {v : Value} {l : List S} (h : OwnS w base v l) (hb : ∀ (g : Nat) (cur : Array Value), w.heap[g]? = some (.cells cur 37 (0, 0)) → w'.heap[g]? = w.heap[g]?) : OwnS w' base v l := by
  obtain ⟨h1, h2 | ⟨g, cap, cur, hv, hg, hh, h3⟩⟩ := h
  · exact ⟨h1, .inl h2⟩
  · exact ⟨h1, .inr ⟨g, cap, cur, hv, hg, (hb g cur hh).trans hh, h3⟩⟩
theorem OwnS.below {w w' : World} {base : Nat} {v : Value} {l : List S} (h : OwnS w base v l) (hb : Below w.heap.size w w') : OwnS w' base v l := h.kept fun g cur hg => hb.block g (Rw.lt_of_some hg)
theorem OwnS.low {w : World} {base base' : Nat} {v : Value} {l : List S} (h : OwnS w base v l) (hb : base' ≤ base) : OwnS w base' v l := by
  obtain ⟨h1, h2 | ⟨g, cap, cur, hv, hg, h3⟩⟩ := h
  · exact ⟨h1, .inl h2⟩
  · exact ⟨h1, .inr ⟨g, cap, cur, hv, by omega, h3⟩⟩
theorem OwnS.nil (w : World) (base : Nat) : OwnS w base (.slice none 0 0) [] := ⟨rfl, .inl ⟨rfl, rfl⟩⟩
theorem infoS : (Tryz.prog.info? 37).map (fun i => (i.zero, i.size, i.bytes)) = some (some (.agg #[.int .i64 0, .int .u8 0]), 2, 16) := by kernel_rfl
theorem infoS' : ∃ i, Tryz.prog.info? 37 = some i ∧ i.zero = some (.agg #[.int .i64 0, .int .u8 0]) ∧ i.size = 2 ∧ i.bytes = 16 := by
  obtain ⟨i, hi, h⟩ := Option.map_eq_some_iff.1 infoS
  simp only [Prod.mk.injEq] at h
  exact ⟨i, hi, h.1, h.2.1, h.2.2⟩
/-- append of one seat to own seats. -/
theorem run_appendS {w : World} (ty : TypeId) (base : Nat) (v : Value) (l : List S) (s : S) (hown : OwnS w base v l) (g : Nat) (hg : Sc s g 0 w) (hlen : l.length < 100000) (hbase : base ≤ w.heap.size) :
    ∃ A cap w', (Builtin.append_ #[72, 72] ty #[v, .slice (some ⟨g, 0, none⟩) 1 1]).run Tryz.prog w = .ok (.slice A (l.length + 1) cap) w' ∧ OwnS w' base (.slice A (l.length + 1) cap) (l ++ [s]) ∧ Below base w w' ∧ (∀ k, k < w.heap.size → v.ownBlock ≠ some k → w'.heap[k]? = w.heap[k]?) := by
  obtain ⟨i0, hi0, hz0, hz1, hz2⟩ := infoS'
  obtain ⟨v', w', hrun, hown', hgr, hnil, _⟩ := run_append_own_at (P := Tryz.prog) w base 72 ty 37 i0 (.agg #[.int .i64 0, .int .u8 0]) 2 16 Tryz.underlying72 hi0 hz0 hz1 hz2 rfl (by omega) v l.length (flat l) hown ⟨g, 0, none⟩ 1 1 [.int .i64 s.1, .int .u8 s.2] rfl (fun j u hu => by
    rcases j with _ | _ | j
    · simp at hu; subst hu; exact hg.1
    · simp at hu; subst hu; exact hg.2
    · simp at hu) (by simp; exact ⟨rfl, rfl⟩) (by unfold maxLen; omega) (by omega) hbase
  have hO : OwnS w' base v' (l ++ [s]) := by
    unfold OwnS
    rw [List.length_append, flat_append]
    exact hown'
  have hty : ∀ k, v.ownBlock = some k → base ≤ k ∧ ∃ cur, w.heap[k]? = some (.cells cur 37 (0, 0)) := fun k hk => by
    obtain ⟨_, ⟨hv, h0⟩ | ⟨g, cap, cur, hv, hg, hh, _⟩⟩ := hown
    · rw [hv] at hk; cases hk
    · rw [hv] at hk
      simp only [Value.ownBlock, Option.some.injEq] at hk
      subst hk
      exact ⟨hg, cur, hh⟩
  obtain ⟨A, cap, hv, _⟩ := hO.sts
  rw [List.length_append] at hv
  simp only [List.length_cons, List.length_nil, Nat.zero_add] at hv
  subst hv
  refine ⟨A, cap, w', hrun, hO, ⟨hgr.os, hgr.tape, hgr.output, hgr.size, fun k hk => hgr.block k (by omega) (fun e => by have := (hty k e.symm).1; omega)⟩, fun k hk hne => hgr.block k hk (fun e => hne e.symm)⟩
theorem OwnS.blk {w : World} {base : Nat} {v : Value} {l : List S} (h : OwnS w base v l) : ∀ k, v.ownBlock = some k → base ≤ k ∧ k < w.heap.size ∧ ∃ cur, w.heap[k]? = some (.cells cur 37 (0, 0)) := fun k hk => by
  obtain ⟨_, ⟨hv, h0⟩ | ⟨g, cap, cur, hv, hg, hh, _⟩⟩ := h
  · rw [hv] at hk; cases hk
  · rw [hv] at hk
    simp only [Value.ownBlock, Option.some.injEq] at hk
    subst hk
    exact ⟨hg, Rw.lt_of_some hh, cur, hh⟩
end Pl
end Go.Proofs.YtfodabbmjggieaaGreat
namespace Go.Proofs.YtfodabbmjggieaaGreat
open Go.RowKit Go.WideMaps
set_option linter.unusedVariables false

namespace Rw
section
variable {w : World} {o : Oper} {a : Act} {K : Act → World → Prop} {Q : Exit → Act → World → Prop}
theorem wp_alloc (t : TypeId) (hop : o.op = Op.alloc t) (cs : List Value) (hz : ∀ w, (zeroValue t).run Tryz.prog w = .ok (.agg cs.toArray) w)
    (hK : ∀ w', Blk w' w.heap.size t cs → Below w.heap.size w w' → w'.heap.size = w.heap.size + 1 → K (a.put o.dst (.pointer (some ⟨w.heap.size, 0, none⟩))) w') : Oper.wp Tryz.prog o a w K Q := by
  have hr : (Instr.alloc t true (.tuple #[])).run Tryz.prog w = .ok (.pointer (some ⟨w.heap.size, 0, none⟩)) (w.alloc (.cells cs.toArray t)) := by
    simp [Instr.alloc, hz, newVar, newRow, Value.cells, go_sem]
  unfold Oper.wp
  simp [execOp, hop, hr, Result.andThen]
  exact hK _ (heap_alloc_new w _) ((Below.refl _ _).alloc (Nat.le_refl _) _) (by simp)
theorem wp_store_whole (t : TypeId) (x y : Operand) (hop : o.op = Op.store t x y) (g : Nat) (hx : a.eval x = .pointer (some ⟨g, 0, none⟩)) (cs : List Value) (hy : a.eval y = .agg cs.toArray)
    (cur : List Value) (e : TypeId) (hg : Blk w g e cur) (hi : (Tryz.prog.info? t).map (·.size) = some cs.length) (hfit : cs.length = cur.length) (h1 : ∀ v ∈ cs, v.oneCell' = true)
    (hK : ∀ w', Blk w' g e cs → Fr (· = g) w w' → K (a.put o.dst undef) w') : Oper.wp Tryz.prog o a w K Q := by
  have hr := run_store_row (w := w) (off := 0) (t := t) hg cs hi (by simp [hfit]) h1
  unfold Oper.wp execOp
  simp only [hop, hx, hy, Sem.run_bind, hr, Sem.run_pure, Result.andThen_ok]
  refine hK _ ?_ (Fr.setRow w g _)
  unfold Blk
  rw [setRow_heap w g cur.toArray _ e (0, 0) hg]
  simp [hfit]
theorem wp_store_one (t : TypeId) (x y : Operand) (hop : o.op = Op.store t x y) (g j : Nat) (hx : a.eval x = .pointer (some ⟨g, j, none⟩)) (v : Value) (hy : a.eval y = v) (hv : v.cells = #[v])
    (cur : List Value) (e : TypeId) (hg : Blk w g e cur) (hi : (Tryz.prog.info? t).map (·.size) = some 1) (hj : j < cur.length) (h1 : v.oneCell' = true)
    (hK : ∀ w', Blk w' g e (cur.set j v) → Fr (· = g) w w' → K (a.put o.dst undef) w') : Oper.wp Tryz.prog o a w K Q := by
  have hst := run_storeCells_at Tryz.prog g j e [v] 0 cur.toArray w hg (by simp; omega) (by simp [h1])
  simp only [Nat.add_zero] at hst
  cases hq : Tryz.prog.info? t with
  | none => simp [hq] at hi
  | some i =>
    have hs : i.size = 1 := by simpa [hq] using hi
    have hr : (Instr.storeAt t (.pointer (some ⟨g, j, none⟩)) v).run Tryz.prog w = .ok () (w.setRow g (cur.take j ++ [v] ++ cur.drop (j + 1)).toArray) := by
      simp [Instr.storeAt, Instr.sureAddr, storeVar, sizeOf, typeInfo, hq, hs, hv, hst]
    unfold Oper.wp execOp
    simp only [hop, hx, hy, Sem.run_bind, hr, Sem.run_pure, Result.andThen_ok]
    refine hK _ ?_ (Fr.setRow w g _)
    unfold Blk
    rw [setRow_heap w g cur.toArray _ e (0, 0) hg, List.set_eq_take_append_cons_drop, if_pos hj]
    simp
/-- append of one seat. -/
theorem wp_appendS (s x : Operand) (ho : o.op = .call { callee := .builtin .append, args := #[s, x], argTypes := #[72, 72] })
    (base : Nat) (v : Value) (l : List Pl.S) (st : Pl.S) (hown : Pl.OwnS w base v l) (hs : a.eval s = v) (g : Nat) (hx : a.eval x = .slice (some ⟨g, 0, none⟩) 1 1) (hg : Pl.Sc st g 0 w)
    (hlen : l.length < 100000) (hbase : base ≤ w.heap.size) (n : Nat) (hn : n = l.length + 1)
    (hK : ∀ A cap w', Hid (Pl.OwnS w' base (.slice A n cap) (l ++ [st])) → Hid (Below base w w') → Hid (∀ k, k < w.heap.size → v.ownBlock ≠ some k → w'.heap[k]? = w.heap[k]?) → K (a.put o.dst (.slice A n cap)) w') : Oper.wp Tryz.prog o a w K Q := by
  subst hn
  obtain ⟨A, cap, w', hrun, hO, hb, hkp⟩ := Pl.run_appendS o.type base v l st hown g hg hlen hbase
  unfold Oper.wp execOp
  simp only [ho, resolve, invoke, builtin, Sem.run_bind, Sem.run_pure, Result.andThen_ok, List.map_toArray, List.map_cons, List.map_nil, hs, hx, hrun]
  exact hK A cap w' hO hb hkp
/-- mapUpdate. -/
theorem wp_mapUpdate (t : TypeId) (m k v : Operand) (hop : o.op = Op.mapUpdate t m k v) (r : Nat) (hm : a.eval m = .map (some r)) (key val : Value) (hk : a.eval k = key) (hv : a.eval v = val) (w' : World)
    (hrun : (Instr.mapUpdate t (.map (some r)) key val).run Tryz.prog w = .ok () w') (hK : K (a.put o.dst undef) w') : Oper.wp Tryz.prog o a w K Q := by
  unfold Oper.wp execOp
  simp only [hop, hm, hk, hv, Sem.run_bind, hrun, Sem.run_pure, Result.andThen_ok]
  exact hK
theorem wpList_appendS {ops : Array Oper} {rest : List Oper} (hgd : o.guard = none) (s x : Operand) (ho : o.op = .call { callee := .builtin .append, args := #[s, x], argTypes := #[72, 72] })
    (base : Nat) (v : Value) (l : List Pl.S) (st : Pl.S) (hown : Pl.OwnS w base v l) (hs : a.eval s = v) (g : Nat) (hx : a.eval x = .slice (some ⟨g, 0, none⟩) 1 1) (hg : Pl.Sc st g 0 w)
    (hlen : l.length < 100000) (hbase : base ≤ w.heap.size) (n : Nat) (hn : n = l.length + 1)
    (hK : ∀ A cap w', Hid (Pl.OwnS w' base (.slice A n cap) (l ++ [st])) → Hid (Below base w w') → Hid (∀ k, k < w.heap.size → v.ownBlock ≠ some k → w'.heap[k]? = w.heap[k]?) → wpList Tryz.prog ops Q rest (a.put o.dst (.slice A n cap)) w') : wpList Tryz.prog ops Q (o :: rest) a w :=
  wpList_plain hgd fun K hK' => wp_appendS s x ho base v l st hown hs g hx hg hlen hbase n hn fun A cap w' h1 h2 h3 => hK' _ _ (hK A cap w' h1 h2 h3)
end
end Rw
end Go.Proofs.YtfodabbmjggieaaGreat
namespace Go.Proofs.YtfodabbmjggieaaGreat
set_option linter.unusedVariables false

namespace Pl
/-- The columns ahead of i. -/
def colsTo (p : P) (i : Nat) : List Nat := (List.range i).filter fun j => decide (Cd.bt p.lt j ≠ 46)
def cols (p : P) : List Nat := colsTo p p.lt.size
/-- The places of the first k rows. -/
def upto (p : P) (k : Nat) : List (Int × Nat) := (List.range k).flatMap fun (j : Nat) => (cols p).map fun i => (p.fr + (j : Int), i)
def nrows (p : P) : Nat := (p.la - p.fr + 1).toNat
def pls (p : P) : List (Int × Nat) := upto p (nrows p)
def seatOf (p : P) (q : Int × Nat) : S := (q.1, Cd.bt p.lt q.2)
def all (p : P) : List S := (pls p).map (seatOf p)
/-- The letters. -/
def lets (p : P) : List Int := (Cd.bs p.lt).filter fun c => decide (c ≠ 46)
/-- What was laid ahead of place i of row k. -/
def ahead (p : P) (k i : Nat) : List (Int × Nat) := upto p k ++ (colsTo p i).map fun j => (p.fr + (k : Int), j)
theorem colsTo_succ (p : P) (i : Nat) : colsTo p (i + 1) = colsTo p i ++ (if Cd.bt p.lt i ≠ 46 then [i] else []) := by
  unfold colsTo
  rw [List.range_succ, List.filter_append]
  by_cases h : Cd.bt p.lt i = 46 <;> simp [h]
theorem upto_succ (p : P) (k : Nat) : upto p (k + 1) = upto p k ++ (cols p).map fun i => (p.fr + (k : Int), i) := by
  unfold upto
  rw [List.range_succ, List.flatMap_append]
  simp
theorem ahead_zero (p : P) (k : Nat) : ahead p k 0 = upto p k := by simp [ahead, colsTo]
theorem ahead_end (p : P) (k : Nat) : ahead p k p.lt.size = upto p (k + 1) := by rw [upto_succ]; rfl
theorem ahead_yes (p : P) (k i : Nat) (h : Cd.bt p.lt i ≠ 46) : ahead p k (i + 1) = ahead p k i ++ [(p.fr + (k : Int), i)] := by
  unfold ahead
  rw [colsTo_succ, if_pos h]
  simp
theorem ahead_no (p : P) (k i : Nat) (h : Cd.bt p.lt i = 46) : ahead p k (i + 1) = ahead p k i := by
  unfold ahead
  rw [colsTo_succ, if_neg (by simp [h])]
  simp
theorem colsTo_pre (p : P) (i d : Nat) : colsTo p i <+: colsTo p (i + d) := by
  induction d with
  | zero => exact List.prefix_refl _
  | succ d ih => rw [← Nat.add_assoc, colsTo_succ]; exact ih.trans (List.prefix_append _ _)
theorem upto_pre (p : P) (i d : Nat) : upto p i <+: upto p (i + d) := by
  induction d with
  | zero => exact List.prefix_refl _
  | succ d ih => rw [← Nat.add_assoc, upto_succ]; exact ih.trans (List.prefix_append _ _)
theorem ahead_pre (p : P) (k i : Nat) (hk : k < nrows p) (hi : i ≤ p.lt.size) : ahead p k i <+: pls p := by
  have h1 : ahead p k i <+: upto p (k + 1) := by
    rw [← ahead_end]
    unfold ahead
    rw [List.prefix_append_right_inj]
    have := colsTo_pre p i (p.lt.size - i)
    rw [Nat.add_sub_cancel' hi] at this
    exact this.map _
  have h2 := upto_pre p (k + 1) (nrows p - (k + 1))
  rw [Nat.add_sub_cancel' hk] at h2
  exact h1.trans h2
theorem bs_range (s : ByteArray) : Cd.bs s = (List.range s.size).map (Cd.bt s) := by
  apply List.ext_getElem
  · rw [Cd.length_bs]; simp
  · intro i h1 h2
    simp only [List.getElem_map, List.getElem_range]
    unfold Cd.bt
    rw [List.getD_eq_getElem?_getD, List.getElem?_eq_getElem h1]
    rfl
theorem lets_cols (p : P) : (cols p).map (Cd.bt p.lt) = lets p := by
  unfold lets cols colsTo
  rw [bs_range, List.filter_map]
  rfl
theorem all_eq (p : P) : all p = (List.range (nrows p)).flatMap fun (j : Nat) => (lets p).map fun c => (p.fr + (j : Int), c) := by
  unfold all pls upto
  rw [List.map_flatMap]
  congr 1
  funext j
  rw [← lets_cols, List.map_map, List.map_map]
  rfl
theorem lf_ok : ∀ (l : List Int) (n : Nat) (g : Int) (a : Bool), lf l n g a = true → n ≤ 10 →
    (l.filter fun c => decide (c ≠ 46)).Pairwise (· < ·) ∧ (∀ c ∈ l.filter fun c => decide (c ≠ 46), g < c ∧ Cd.isL c = true) ∧ (l.filter fun c => decide (c ≠ 46)).length + n ≤ 10
  | [], n, g, a, _, hn => ⟨by simp, by simp, by simpa using hn⟩
  | c :: l, n, g, a, h, hn => by
    unfold lf at h
    by_cases hc : c = 46
    · rw [if_pos hc] at h
      cases a with
      | true => simp at h
      | false =>
        have ih := lf_ok l n g true (by simpa using h) hn
        simpa [hc] using ih
    · rw [if_neg hc] at h
      by_cases hq : (Cd.isL c && decide (g < c) && decide (n ≠ 10)) = true
      · rw [if_pos hq] at h
        simp only [Bool.and_eq_true, decide_eq_true_eq] at hq
        obtain ⟨i1, i2, i3⟩ := lf_ok l (n + 1) c false h (by omega)
        have hf : (c :: l).filter (fun c => decide (c ≠ 46)) = c :: l.filter fun c => decide (c ≠ 46) := by simp [hc]
        rw [hf]
        refine ⟨List.pairwise_cons.2 ⟨fun a ha => (i2 a ha).1, i1⟩, fun x hx => ?_, by simp only [List.length_cons]; omega⟩
        rcases List.mem_cons.1 hx with rfl | hx
        · exact ⟨hq.1.2, hq.1.1⟩
        · exact ⟨Int.lt_trans hq.1.2 (i2 x hx).1, (i2 x hx).2⟩
      · rw [if_neg hq] at h; cases h
theorem lets_ok {p : P} (h : lettersOk p.lt = true) : (lets p).Pairwise (· < ·) ∧ (∀ c ∈ lets p, Cd.isL c = true) ∧ (lets p).length ≤ 10 := by
  obtain ⟨h1, h2, h3⟩ := lf_ok (Cd.bs p.lt) 0 0 true h (by omega)
  exact ⟨h1, fun c hc => (h2 c hc).2, h3⟩
theorem lss_lt {a b : S} : lss a b = true ↔ a.1 < b.1 ∨ (a.1 = b.1 ∧ a.2 < b.2) := by
  simp [lss]
theorem all_rise {p : P} (h : lettersOk p.lt = true) : (all p).Pairwise (fun a b => lss a b = true) := by
  rw [all_eq, List.pairwise_flatMap]
  constructor
  · intro j _
    rw [List.pairwise_map]
    refine (lets_ok h).1.imp (fun {a b} (hab : a < b) => ?_)
    exact lss_lt.2 (.inr ⟨rfl, hab⟩)
  · refine List.pairwise_lt_range.imp fun hab => ?_
    intro x hx y hy
    obtain ⟨_, _, rfl⟩ := List.mem_map.1 hx
    obtain ⟨_, _, rfl⟩ := List.mem_map.1 hy
    exact lss_lt.2 (.inl (by show _ + _ < _ + _; omega))
theorem lss_ne {a b : S} (h : lss a b = true) : a ≠ b := by
  rintro rfl
  rcases lss_lt.1 h with h | ⟨_, h⟩ <;> omega
theorem all_nodup {p : P} (h : lettersOk p.lt = true) : (all p).Nodup := (all_rise h).imp lss_ne
theorem all_len {p : P} (h : lettersOk p.lt = true) (hr : rowsOk p = true) : (all p).length ≤ 600 := by
  rw [all_eq, List.length_flatMap]
  have h1 := (lets_ok h).2.2
  have h2 : nrows p ≤ 60 := by simp [rowsOk] at hr; unfold nrows; omega
  simp only [List.length_map, List.map_const', List.length_range, List.sum_replicate_nat]
  calc nrows p * (lets p).length ≤ 60 * 10 := Nat.mul_le_mul h2 h1
    _ = 600 := rfl
theorem mem_all {p : P} {s : S} : s ∈ all p ↔ inRow p s.1 = true ∧ s.2 ∈ lets p := by
  rw [all_eq, List.mem_flatMap]
  constructor
  · rintro ⟨j, hj, hs⟩
    obtain ⟨c, hc, rfl⟩ := List.mem_map.1 hs
    rw [List.mem_range] at hj
    unfold nrows at hj
    refine ⟨?_, hc⟩
    simp [inRow]; omega
  · rintro ⟨h1, h2⟩
    simp [inRow] at h1
    refine ⟨(s.1 - p.fr).toNat, ?_, List.mem_map.2 ⟨s.2, h2, ?_⟩⟩
    · rw [List.mem_range]; unfold nrows; omega
    · obtain ⟨a, b⟩ := s
      simp only at *
      congr 1; omega
theorem ahead_new {p : P} (hl : lettersOk p.lt = true) {k i : Nat} (hk : k < nrows p) (hi : i < p.lt.size) (hc : Cd.bt p.lt i ≠ 46) : ∀ q ∈ ahead p k i, seatOf p q ≠ seatOf p (p.fr + (k : Int), i) := by
  have h1 := ahead_pre p k (i + 1) hk hi
  rw [ahead_yes p k i hc] at h1
  have h2 := h1.map (seatOf p)
  have h3 := h2.sublist.nodup (all_nodup hl)
  rw [List.map_append, List.nodup_append] at h3
  intro q hq
  exact h3.2.2 _ (List.mem_map.2 ⟨q, hq, rfl⟩) _ (by simp)
theorem ahead_len {p : P} (hl : lettersOk p.lt = true) (hr : rowsOk p = true) {k i : Nat} (hk : k < nrows p) (hi : i ≤ p.lt.size) : (ahead p k i).length ≤ 600 := by
  have h1 := (ahead_pre p k i hk hi).length_le
  have h2 := all_len hl hr
  unfold all at h2
  rw [List.length_map] at h2
  omega
end Pl
end Go.Proofs.YtfodabbmjggieaaGreat
namespace Go.Proofs.YtfodabbmjggieaaGreat
open Go.RowKit Go.WideMaps
set_option linter.unusedVariables false

namespace Pl
/-- What the map holds of a place. -/
def mkq (p : P) (q : Int × Nat) : ByteArray := if p.bl.contains (seatOf p q) then ⟨#[]⟩ else marks p q.1 q.2
def plc (p : P) (n : Nat) (q : Int × Nat) : List Value := [.int .i64 n, .bool (p.bl.contains (seatOf p q)), .string (mkq p q)]
def ent (p : P) (l : List (Int × Nat)) : List (Value × Value) := l.mapIdx fun n q => (sv (seatOf p q), .agg (plc p n q).toArray)
theorem ent_len (p : P) (l : List (Int × Nat)) : (ent p l).length = l.length := by simp [ent]
theorem ent_append (p : P) (l : List (Int × Nat)) (q : Int × Nat) : ent p (l ++ [q]) = ent p l ++ [(sv (seatOf p q), .agg (plc p l.length q).toArray)] := by
  simp [ent, List.mapIdx_append]
theorem ent_get (p : P) (l : List (Int × Nat)) (j : Nat) (hj : j < l.length) : (ent p l)[j]? = some (sv (seatOf p l[j]), .agg (plc p j l[j]).toArray) := by
  simp [ent, hj]
theorem ent_mem {p : P} {l : List (Int × Nat)} {e : Value × Value} (h : e ∈ ent p l) : ∃ (j : Nat) (hj : j < l.length), e = (sv (seatOf p l[j]), .agg (plc p j l[j]).toArray) := by
  obtain ⟨j, hj⟩ := List.mem_iff_getElem?.1 h
  have hl : j < l.length := by have := (List.getElem?_eq_some_iff.1 hj).1; rwa [ent_len] at this
  rw [ent_get p l j hl] at hj
  exact ⟨j, hl, by injection hj with hj; exact hj.symm⟩
/-- A map at g of the places l. -/
structure MapAt (w : World) (base g : Nat) (p : P) (l : List (Int × Nat)) : Prop where
  at_ : ∃ A cap m, Rw.Blk w g 128 [.slice A l.length cap, .map (some m)] ∧ OwnS w base (.slice A l.length cap) (l.map (seatOf p)) ∧ Mp.MapL Tryz.prog 37 w m (ent p l) ∧ base ≤ m
  lo : base ≤ g
theorem uMap : Tryz.prog.underlying 126 = some (.map 37 150) := by kernel_rfl
theorem zPlace : ∀ w, (zeroValue 150).run Tryz.prog w = .ok (.agg #[.int .i64 0, .bool false, .string ⟨#[]⟩]) w := fun w => by kernel_rfl
theorem zSeat : ∀ w, (zeroValue 37).run Tryz.prog w = .ok (.agg #[.int .i64 0, .int .u8 0]) w := fun w => by kernel_rfl
theorem iSeat : (Tryz.prog.info? 37).map (·.size) = some 2 := by kernel_rfl
theorem iPlace : (Tryz.prog.info? 150).map (·.size) = some 3 := by kernel_rfl
theorem iText : (Tryz.prog.info? 9).map (·.size) = some 1 := by kernel_rfl
theorem iSl : (Tryz.prog.info? 72).map (·.size) = some 1 := by kernel_rfl
theorem MapAt.kept {w w' : World} {base g : Nat} {p : P} {l : List (Int × Nat)} (h : MapAt w base g p l) (hb : ∀ k, base ≤ k → k < w.heap.size → w'.heap[k]? = w.heap[k]?) : MapAt w' base g p l := by
  obtain ⟨⟨A, cap, m, h1, h2, h3, h4⟩, h5⟩ := h
  refine ⟨⟨A, cap, m, h1.kept (hb g h5 h1.lt), ?_, h3.kept (hb m h4 h3.lt), h4⟩, h5⟩
  obtain ⟨e1, e2 | ⟨g2, cap2, cur, hv, hg, hh, e3⟩⟩ := h2
  · exact ⟨e1, .inl e2⟩
  · exact ⟨e1, .inr ⟨g2, cap2, cur, hv, hg, (hb g2 hg (Rw.lt_of_some hh)).trans hh, e3⟩⟩
theorem MapAt.below {w w' : World} {base g : Nat} {p : P} {l : List (Int × Nat)} (h : MapAt w base g p l) (hb : Below w.heap.size w w') : MapAt w' base g p l := h.kept fun k _ hk => hb.block k hk
theorem MapAt.low {w : World} {base base' g : Nat} {p : P} {l : List (Int × Nat)} (h : MapAt w base g p l) (hb : base' ≤ base) : MapAt w base' g p l := by
  obtain ⟨⟨A, cap, m, h1, h2, h3, h4⟩, h5⟩ := h
  exact ⟨⟨A, cap, m, h1, h2.low hb, h3, by omega⟩, by omega⟩
theorem uP : Tryz.prog.underlying 74 = some ((Tryz.prog.underlying 74).getD .bool) := by kernel_rfl
theorem rP : ((Tryz.prog.underlying 74).getD .bool).isRow = true := by kernel_rfl
theorem iP : (Tryz.prog.info? 74).map (·.size) = some 5 := by kernel_rfl
theorem uS : Tryz.prog.underlying 37 = some ((Tryz.prog.underlying 37).getD .bool) := by kernel_rfl
theorem rS : ((Tryz.prog.underlying 37).getD .bool).isRow = true := by kernel_rfl
theorem uQ : Tryz.prog.underlying 150 = some ((Tryz.prog.underlying 150).getD .bool) := by kernel_rfl
theorem rQ : ((Tryz.prog.underlying 150).getD .bool).isRow = true := by kernel_rfl
end Pl
namespace Rw
theorem Blk.set1 {w : World} {g : Nat} {t : TypeId} {cs : List Value} (h : Blk w g t cs) (i : Nat) (u : Value) : Blk (w.setCell ⟨g, i, none⟩ u) g t (cs.set i u) := by
  unfold Blk at h ⊢
  simp [World.setCell, Array.getElem?_modify, h]
theorem Blk.far1 {w : World} {g g' : Nat} {t : TypeId} {cs : List Value} (h : Blk w g t cs) (i : Nat) (u : Value) (hne : g ≠ g') : Blk (w.setCell ⟨g', i, none⟩ u) g t cs := (Below.heap_setCell w ⟨g', i, none⟩ u g hne).trans h
theorem blk_ne {w : World} {g g' : Nat} {t t' : TypeId} {cs cs' : List Value} (h : Blk w g t cs) (h' : Blk w g' t' cs') (hne : t ≠ t') : g ≠ g' := by
  rintro rfl
  unfold Blk at h h'
  rw [h] at h'
  injection h' with h'
  injection h' with _ ht
  exact hne ht
theorem setCell_heap {w : World} {g i k : Nat} (u : Value) (hne : k ≠ g) : (w.setCell ⟨g, i, none⟩ u).heap[k]? = w.heap[k]? := Below.heap_setCell w ⟨g, i, none⟩ u k hne
end Rw
end Go.Proofs.YtfodabbmjggieaaGreat
namespace Go.Proofs.YtfodabbmjggieaaGreat
open Go.RowKit Go.WideMaps
set_option linter.unusedVariables false

namespace Pl
/-- Behind the making of what the map holds. -/
def AddMid (w3 : World) (n : Nat) (b : Bool) (t : ByteArray) (s9 : Value) (wx : World) : Prop :=
  ∃ g, s9 = .pointer (some ⟨g, 0, none⟩) ∧ Rw.Blk wx g 150 [.int .i64 n, .bool b, .string t] ∧ w3.heap.size ≤ g ∧ Below w3.heap.size w3 wx
/-- Behind the append. -/
def AddEnd (base g m : Nat) (p : P) (l : List (Int × Nat)) (row bt : Int) (w wd wx : World) : Prop :=
  ∃ A cap, OwnS wx base (.slice A (l.length + 1) cap) (l.map (seatOf p) ++ [(row, bt)]) ∧ Rw.Blk wx g 128 [.slice A (l.length + 1) cap, .map (some m)] ∧ Below base wd wx ∧ (∀ k, w.heap.size ≤ k → k < wd.heap.size → wx.heap[k]? = wd.heap[k]?) ∧ wx.heap[m]? = wd.heap[m]?
theorem AddEnd.mk {base g m : Nat} {p : P} {l : List (Int × Nat)} {row bt : Int} {w wd w4 w5 : World} {A A5 : Option Addr} {cap c5 : Nat} (hb4 : Below wd.heap.size wd w4) (hz : w.heap.size ≤ wd.heap.size) (hbase : base ≤ w.heap.size)
    (HOB : ∀ k, (Value.slice A l.length cap).ownBlock = some k → k < w.heap.size ∧ k ≠ g ∧ k ≠ m) (hg : g < w.heap.size) (hm : m < w.heap.size) (hbg : base ≤ g) (hgm : g ≠ m)
    (HG : Rw.Blk wd g 128 [.slice A l.length cap, .map (some m)])
    (h51 : OwnS w5 base (.slice A5 (l.length + 1) c5) (l.map (seatOf p) ++ [(row, bt)])) (h52 : Below base w4 w5) (h53 : ∀ k, k < w4.heap.size → (Value.slice A l.length cap).ownBlock ≠ some k → w5.heap[k]? = w4.heap[k]?) :
    AddEnd base g m p l row bt w wd (w5.setCell ⟨g, 0, none⟩ (.slice A5 (l.length + 1) c5)) := by
  have hz4 := hb4.size
  have k5 : Rw.Blk w5 g 128 [.slice A l.length cap, .map (some m)] := (HG.below' hb4).kept (h53 g (by omega) (fun e => (HOB g e).2.1 rfl))
  have hne : ∀ gg (cur : Array Value), w5.heap[gg]? = some (Obj.cells cur 37 (0, 0)) → gg ≠ g := fun gg cur h e => by
    subst e; unfold Rw.Blk at k5; rw [k5] at h; injection h with h; injection h with _ h; exact absurd h (by decide)
  refine ⟨A5, c5, h51.kept fun gg cur h => Rw.setCell_heap _ (hne gg cur h), k5.set1 0 _, ⟨h52.os.trans hb4.os, h52.tape.trans hb4.tape, h52.output.trans hb4.output, ?_, fun k hk => ?_⟩, fun k h1 h2 => ?_, ?_⟩
  · have := h52.size; simp; omega
  · rw [Rw.setCell_heap _ (by omega), h52.block k hk, hb4.block k (by omega)]
  · rw [Rw.setCell_heap _ (by omega), h53 k (by omega) (fun e => by have := (HOB k e).1; omega), hb4.block k h2]
  · rw [Rw.setCell_heap _ (fun e => hgm e.symm), h53 m (by omega) (fun e => (HOB m e).2.2 rfl), hb4.block m (by omega)]
end Pl
set_option maxHeartbeats 2000000 in
set_option maxRecDepth 20000 in
theorem add_any (r : Pl.R) (row : Int) (i B base g : Nat) (l : List (Int × Nat)) (w : World) (hw : Pl.Wf r) (hi : i < r.p.lt.size) (he : Pl.Ints w B r.eA r.p.ex) (hbl : Pl.Sts w B r.bA r.p.bl)
    (hB : B ≤ w.heap.size) (hbase : base ≤ w.heap.size) (hm : Pl.MapAt w base g r.p l) (hnew : ∀ q ∈ l, Pl.seatOf r.p q ≠ Pl.seatOf r.p (row, i)) (hrow : Pl.WS (Pl.seatOf r.p (row, i))) (hl : l.length < 100000) :
    Calls Tryz.prog 69 #[.pointer (some ⟨g, 0, none⟩), Pl.pv r, .int .i64 row, .int .i64 i] w fun e w' => e = .returned noResult ∧ Pl.MapAt w' base g r.p (l ++ [(row, i)]) ∧ Below base w w' := by
  have hb := Cd.get_bt r.p.lt
  have hbn := hw.b
  have hsz := hw.s
  have HW := Lib.hid hw
  have HE := Lib.hid he
  have HBL := Lib.hid hbl
  have HM := Lib.hid hm
  have HNW := Lib.hid hnew
  have HRW := Lib.hid hrow
  obtain ⟨A, cap, m, H1, H2, H3, h4⟩ := hm.at_
  have h5 := hm.lo
  have HB1 := Lib.hid H1
  have HB2 := Lib.hid H2
  have HB3 := Lib.hid H3
  have hgl := H1.lt
  have hml := H3.lt
  clear H1 H2 H3 hm hnew hrow hw he hbl
  have HSO : Hid (Pl.seatOf r.p (row, i) = (row, Cd.bt r.p.lt i)) := show _ = _ by rfl
  obtain ⟨bc, hbc⟩ : ∃ c, c = r.p.bl.contains (row, Cd.bt r.p.lt i) := ⟨_, rfl⟩
  have HCT := Lib.hid (fun (W : World) (hb : Below w.heap.size w W) => containsSeats_any r.bA r.p.bl r.bc B (row, Cd.bt r.p.lt i) W (HBL.out.below hb hB) (Nat.le_trans hB hb.size) hbn)
  have HMK := Lib.hid (fun (W : World) (hb : Below w.heap.size w W) => marks_any r row i B W hsz hi (HE.out.below hb hB) (Nat.le_trans hB hb.size) HW.out.e)
  have HQ : Hid (Pl.mkq r.p (row, i) = if bc then ⟨#[]⟩ else Pl.marks r.p row i) := show _ = _ by unfold Pl.mkq; rw [HSO.out, hbc]
  have HPC : Hid (r.p.bl.contains (Pl.seatOf r.p (row, i)) = bc) := show _ = _ by rw [HSO.out, hbc]
  unfold Pl.sv at HCT
  simp only at HCT
  rw [← hbc] at HCT
  clear hbc
  generalize hmk : Pl.marks r.p row i = mk at HMK HQ
  clear hmk
  have e0 : Pl.pv r = .agg (Pl.enc r).toArray := rfl
  go_enter Tryz.func69, Tryz.ntmps69
  rw [e0]
  rw [e0] at HMK
  clear e0
  go_wp2_with (first
    | (refine Rw.wpList_box rfl 74 _ rfl (Pl.enc r) rfl ?_; intro w1 K1 b1 z1; have P2 : w1.cell? ⟨w.heap.size, 2, none⟩ = some (.string r.p.lt) := (K1.cell 2).trans rfl; have HZ1 := Lib.hid z1; clear z1)
    | (refine Rw.wpList_alloc rfl 37 rfl [.int .i64 0, .int .u8 0] Pl.zSeat ?_; intro w2 K2 b2 z2; have HZ2 := Lib.hid z2; clear z2)
    | (refine Rw.wpList_store_whole rfl 37 _ _ rfl w1.heap.size rfl [.int .i64 row, .int .u8 (Cd.bt r.p.lt i)] rfl _ _ K2 Pl.iSeat rfl (by intro v hv; simp at hv; rcases hv with rfl | rfl <;> rfl) ?_; intro w3 K3 f3))
  simp only [Act.put, List.setIfInBounds_toArray, List.set_cons_zero, List.set_cons_succ]
  have hb1 : Below w.heap.size w w1 := b1
  have hs1 := HZ1.out
  have hs2 := HZ2.out
  have hb3 : Below w.heap.size w w3 := b1.trans ((b2.trans (f3.below b2.size (fun k hk => by have : k = w1.heap.size := hk; omega))).mono (by omega))
  have HB3' := Lib.hid hb3
  have hs3 : w1.heap.size < w3.heap.size := K3.lt
  have hs0 : w.heap.size < w1.heap.size := by omega
  have HKP : Hid (Rw.Blk w3 w.heap.size 74 (Pl.enc r)) := K1.kept ((f3.block _ (by omega) (by omega)).trans (b2.block _ (by omega)))
  have HKS := Lib.hid K3
  have HKM : Hid (Pl.MapAt w3 base g r.p l) := HM.out.below hb3
  have HS : Hid (∀ w', Below w3.heap.size w3 w' → w'.cell? ⟨g, 0, none⟩ = some (.slice A l.length cap) ∧ w'.cell? ⟨w.heap.size, 4, none⟩ = some (.slice r.bA r.p.bl.length r.bc) ∧ w'.cell? ⟨w1.heap.size, 0, none⟩ = some (.int .i64 row) ∧ w'.cell? ⟨w1.heap.size, 1, none⟩ = some (.int .u8 (Cd.bt r.p.lt i))) := fun w' hb' =>
    ⟨(((HB1.out.below hb3 hgl).below' hb').cell 0).trans rfl, ((HKP.out.below' hb').cell 4).trans rfl, ((HKS.out.below' hb').cell 0).trans rfl, ((HKS.out.below' hb').cell 1).trans rfl⟩
  have HC3 := Lib.hid (fun W (hb' : Below w3.heap.size w3 W) => HCT.out W (hb3.trans (hb'.mono (by omega))))
  clear K1 K2 K3 b1 b2 f3 hb1 hb3 P2 hs1 hs2
  go_cut [9] from 10 (fun s9 wx => Hid (Pl.AddMid w3 l.length bc ⟨#[]⟩ s9 wx))
  case first =>
    refine wp_region_noPanic ?_
    refine wp_region_held_drew (S := fun w' => w'.cell? ⟨g, 0, none⟩ = some (.slice A l.length cap) ∧ w'.cell? ⟨w.heap.size, 4, none⟩ = some (.slice r.bA r.p.bl.length r.bc) ∧ w'.cell? ⟨w1.heap.size, 0, none⟩ = some (.int .i64 row) ∧ w'.cell? ⟨w1.heap.size, 1, none⟩ = some (.int .u8 (Cd.bt r.p.lt i))) (by kernel_rfl) (HS.out _ (Below.refl _ _).drew) (fun hHeld => ?_)
    refine wpAnyH_take (i := 0) (oi := ⟨(some 16), _, _, _, _, _⟩) (v := ?_) rfl (by kernel_rfl) (by kernel_rfl) (by kernel_rfl) (fun _ _ _ h => h) (Or.inl ⟨by rfl, ?_⟩) (by assumption) ?_
    rotate_left
    · (intro w hSw; (try dsimp only at hSw); go_simp <;> with_reducible rfl)
    try simp only [Act.put]
    try simp only [List.setIfInBounds_toArray]
    try simp only [List.set_cons_succ]
    try simp only [List.set_cons_zero]
    refine wpAnyH_take (i := 1) (oi := ⟨(some 17), _, _, _, _, _⟩) (v := ?_) rfl (by kernel_rfl) (by kernel_rfl) (by kernel_rfl) (fun _ _ _ h => h) (Or.inl ⟨by rfl, ?_⟩) (by assumption) ?_
    rotate_left
    · (intro w hSw; (try dsimp only at hSw); go_simp <;> with_reducible rfl)
    try simp only [Act.put]
    try simp only [List.setIfInBounds_toArray]
    try simp only [List.set_cons_succ]
    try simp only [List.set_cons_zero]
    refine wpAnyH_take (i := 2) (oi := ⟨(some 18), _, _, _, _, _⟩) (v := ?_) rfl (by kernel_rfl) (by kernel_rfl) (by kernel_rfl) (fun _ _ _ h => h) (Or.inl ⟨by rfl, ?_⟩) (by assumption) ?_
    rotate_left
    · (intro w hSw; (try dsimp only at hSw); go_simp <;> with_reducible rfl)
    try simp only [Act.put]
    try simp only [List.setIfInBounds_toArray]
    try simp only [List.set_cons_succ]
    try simp only [List.set_cons_zero]
    refine wpAnyH_take (i := 3) (oi := ⟨(some 19), _, _, _, _, _⟩) (v := ?_) rfl (by kernel_rfl) (by kernel_rfl) (by kernel_rfl) (fun _ _ _ h => h) (Or.inl ⟨by rfl, ?_⟩) (by assumption) ?_
    rotate_left
    · (intro w hSw; (try dsimp only at hSw); go_simp <;> with_reducible rfl)
    try simp only [Act.put]
    try simp only [List.setIfInBounds_toArray]
    try simp only [List.set_cons_succ]
    try simp only [List.set_cons_zero]
    refine wpAnyH_take (i := 4) (oi := ⟨(some 20), _, _, _, _, _⟩) (v := ?_) rfl (by kernel_rfl) (by kernel_rfl) (by kernel_rfl) (fun _ _ _ h => h) (Or.inl ⟨by rfl, ?_⟩) (by assumption) ?_
    rotate_left
    · (intro w hSw; (try dsimp only at hSw); go_simp <;> with_reducible rfl)
    try simp only [Act.put]
    try simp only [List.setIfInBounds_toArray]
    try simp only [List.set_cons_succ]
    try simp only [List.set_cons_zero]
    refine wpAnyH_take (i := 5) (oi := ⟨(some 21), _, _, _, _, _⟩) (v := ?_) rfl (by kernel_rfl) (by kernel_rfl) (by kernel_rfl) (fun _ _ _ h => h) (Or.inl ⟨by rfl, ?_⟩) (by assumption) ?_
    rotate_left
    · (intro w hSw; (try dsimp only at hSw); go_simp <;> with_reducible rfl)
    try simp only [Act.put]
    try simp only [List.setIfInBounds_toArray]
    try simp only [List.set_cons_succ]
    try simp only [List.set_cons_zero]
    refine wpAnyH_take (i := 6) (oi := ⟨(some 22), _, _, _, _, _⟩) (v := ?_) rfl (by kernel_rfl) (by kernel_rfl) (by kernel_rfl) (fun _ _ _ h => h) (Or.inl ⟨by rfl, ?_⟩) (by assumption) ?_
    rotate_left
    · (intro w hSw; (try dsimp only at hSw); go_simp <;> with_reducible rfl)
    try simp only [Act.put]
    try simp only [List.setIfInBounds_toArray]
    try simp only [List.set_cons_succ]
    try simp only [List.set_cons_zero]
    refine wpAnyH_take (i := 7) (oi := ⟨(some 23), _, _, _, _, _⟩) (v := ?_) rfl (by kernel_rfl) (by kernel_rfl) (by kernel_rfl) (fun _ _ _ h => h) (Or.inl ⟨by rfl, ?_⟩) (by assumption) ?_
    rotate_left
    · (intro w hSw; (try dsimp only at hSw); go_simp <;> with_reducible rfl)
    try simp only [Act.put]
    try simp only [List.setIfInBounds_toArray]
    try simp only [List.set_cons_succ]
    try simp only [List.set_cons_zero]
    refine wpAnyH_ready (rs := [8, 10]) (by kernel_rfl) (by simp) ?_
    refine AllReadyH.cons (o := ⟨(some 24), _, _, _, _, _⟩) rfl (fun K hK => ?_) (AllReadyH.cons (o := ⟨(some 9), _, _, _, _, _⟩) rfl (fun K hK => ?_) (AllReadyH.nil))
    · go_simp
      go_at_call 91
      refine (HC3.out _ (Below.refl _ _).drew).mono ?_
      rintro e w5 ⟨rfl, hb5⟩
      go_wp2_with fail
      refine hK.out _ _ ?_ (fun hHeld2 => ?_)
      · exact HS.out _ ((Below.refl _ _).drew.trans hb5)
      clear hK K
      try simp only [Act.put]
      try simp only [List.setIfInBounds_toArray]
      try simp only [List.set_cons_succ]
      try simp only [List.set_cons_zero]
      refine wpAnyH_take (i := 9) (oi := ⟨(some 25), _, _, _, _, _⟩) (v := ?_) rfl (by kernel_rfl) (by kernel_rfl) (by kernel_rfl) (fun _ _ _ h => h) (Or.inl ⟨by rfl, ?_⟩) (by assumption) ?_
      rotate_left
      · (intro w hSw; (try dsimp only at hSw); go_simp <;> with_reducible rfl)
      try simp only [Act.put]
      try simp only [List.setIfInBounds_toArray]
      try simp only [List.set_cons_succ]
      try simp only [List.set_cons_zero]
      refine wpAnyH_ready (rs := [10]) (by kernel_rfl) (by simp) ?_
      refine AllReadyH.cons (o := ⟨(some 9), _, _, _, _, _⟩) rfl (fun K hK => ?_) (AllReadyH.nil)
      refine Rw.wp_alloc 150 rfl [.int .i64 0, .bool false, .string ⟨#[]⟩] Pl.zPlace ?_
      intro w6 K6 b6 z6
      have b6a : Below w3.heap.size w3 w6 := ((Below.refl _ _).drew.trans hb5).trans (b6.mono hb5.size)
      refine hK.out _ _ ?_ (fun hHeld2 => ?_)
      · exact HS.out _ b6a
      clear hK K
      try simp only [Act.put]
      try simp only [List.setIfInBounds_toArray]
      try simp only [List.set_cons_succ]
      try simp only [List.set_cons_zero]
      refine wpAnyH_ready (rs := [11]) (by kernel_rfl) (by simp) ?_
      refine AllReadyH.cons (o := ⟨none, _, _, _, _, _⟩) rfl (fun K hK => ?_) (AllReadyH.nil)
      refine Rw.wp_store_whole 150 (.tmp 9) (.tmp 25) rfl w5.heap.size rfl [.int .i64 l.length, .bool bc, .string ⟨#[]⟩] rfl _ _ K6 Pl.iPlace rfl (by intro v hv; simp at hv; rcases hv with rfl | rfl | rfl <;> rfl) ?_
      intro w7 K7 f7
      have b7 : Below w3.heap.size w3 w7 := b6a.trans (f7.below (Nat.le_trans hb5.size b6.size) (fun k hk => by have h1 : k = w5.heap.size := hk; have h2 := hb5.size; exact h1 ▸ h2))
      refine hK.out _ _ ?_ (fun hHeld2 => ?_)
      · exact HS.out _ b7
      clear hK K
      try simp only [Act.put]
      try simp only [List.setIfInBounds_toArray]
      try simp only [List.set_cons_succ]
      try simp only [List.set_cons_zero]
      refine wpAnyH_done (by kernel_rfl) ?_ _
      refine NoPanic.normal ?_
      go_wp2
      go_meet
      exact ⟨_, rfl, K7, hb5.size, b7⟩
    · refine Rw.wp_alloc 150 rfl [.int .i64 0, .bool false, .string ⟨#[]⟩] Pl.zPlace ?_
      intro w6 K6 b6 z6
      have b6a : Below w3.heap.size w3 w6 := (Below.refl _ _).drew.trans b6
      refine hK.out _ _ ?_ (fun hHeld2 => ?_)
      · exact HS.out _ b6a
      clear hK K
      try simp only [Act.put]
      try simp only [List.setIfInBounds_toArray]
      try simp only [List.set_cons_succ]
      try simp only [List.set_cons_zero]
      refine wpAnyH_ready (rs := [8]) (by kernel_rfl) (by simp) ?_
      refine AllReadyH.cons (o := ⟨(some 24), _, _, _, _, _⟩) rfl (fun K hK => ?_) (AllReadyH.nil)
      go_simp
      go_at_call 91
      refine (HC3.out _ b6a).mono ?_
      rintro e w5 ⟨rfl, hb5⟩
      have K6b := K6.below' hb5
      have b5a : Below w3.heap.size w3 w5 := b6a.trans (hb5.mono b6a.size)
      go_wp2_with fail
      refine hK.out _ _ ?_ (fun hHeld2 => ?_)
      · exact HS.out _ b5a
      clear hK K
      try simp only [Act.put]
      try simp only [List.setIfInBounds_toArray]
      try simp only [List.set_cons_succ]
      try simp only [List.set_cons_zero]
      refine wpAnyH_take (i := 9) (oi := ⟨(some 25), _, _, _, _, _⟩) (v := ?_) rfl (by kernel_rfl) (by kernel_rfl) (by kernel_rfl) (fun _ _ _ h => h) (Or.inl ⟨by rfl, ?_⟩) (by assumption) ?_
      rotate_left
      · (intro w hSw; (try dsimp only at hSw); go_simp <;> with_reducible rfl)
      try simp only [Act.put]
      try simp only [List.setIfInBounds_toArray]
      try simp only [List.set_cons_succ]
      try simp only [List.set_cons_zero]
      refine wpAnyH_ready (rs := [11]) (by kernel_rfl) (by simp) ?_
      refine AllReadyH.cons (o := ⟨none, _, _, _, _, _⟩) rfl (fun K hK => ?_) (AllReadyH.nil)
      refine Rw.wp_store_whole 150 (.tmp 9) (.tmp 25) rfl w3.heap.size rfl [.int .i64 l.length, .bool bc, .string ⟨#[]⟩] rfl _ _ K6b Pl.iPlace rfl (by intro v hv; simp at hv; rcases hv with rfl | rfl | rfl <;> rfl) ?_
      intro w7 K7 f7
      have b7 : Below w3.heap.size w3 w7 := b5a.trans (f7.below b5a.size (fun k hk => by have h1 : k = w3.heap.size := hk; omega))
      refine hK.out _ _ ?_ (fun hHeld2 => ?_)
      · exact HS.out _ b7
      clear hK K
      try simp only [Act.put]
      try simp only [List.setIfInBounds_toArray]
      try simp only [List.set_cons_succ]
      try simp only [List.set_cons_zero]
      refine wpAnyH_done (by kernel_rfl) ?_ _
      refine NoPanic.normal ?_
      go_wp2
      go_meet
      exact ⟨_, rfl, K7, Nat.le_refl _, b7⟩
  case rest =>
    obtain ⟨wb, ewb⟩ : ∃ wb, wb = wc := ⟨_, rfl⟩
    subst ewb
    obtain ⟨g9, rfl, HP9, hg9, hb9⟩ := hcut.out
    have KP9 := Lib.hid HP9
    have c91 : wb.cell? ⟨g9, 1, none⟩ = some (.bool bc) := (HP9.cell 1).trans rfl
    have HB9 : Hid (Below w.heap.size w wb) := HB3'.out.trans (hb9.mono (by omega))
    have hz9 := hb9.size
    have HQp : Hid (Rw.Blk wb w.heap.size 74 (Pl.enc r)) := HKP.out.below' hb9
    have HMKb := Lib.hid (HMK.out wb HB9.out)
    have HB9' := Lib.hid hb9
    clear HP9 hcut hb9
    go_upto_if 28 with (fail)
    go_cut [9] from 10 (fun s9 wx => Hid (s9 = .pointer (some ⟨g9, 0, none⟩) ∧ Rw.Blk wx g9 150 (Pl.plc r.p l.length (row, i)) ∧ Below w3.heap.size w3 wx))
    case first =>
      cases bc with
      | true =>
        go_wp2
        go_meet
        refine ⟨rfl, ?_, HB9'.out⟩
        have h1 := HQ.out
        have h2 := KP9.out
        unfold Pl.plc
        rw [HPC.out, h1]
        exact h2
      | false =>
        go_wp2_with (first
          | (refine wpList_load_mid rfl 74 _ rfl w.heap.size 0 rfl (Pl.enc r) _ HQp.out.range Pl.uP Pl.rP Pl.iP ?_)
          | (go_at_call 92; refine HMKb.out.mono ?_; rintro e w10 ⟨rfl, hb10⟩; have K10 := KP9.out.below' hb10)
          | (refine Rw.wpList_store_one rfl 9 (.tmp 33) (.tmp 32) rfl g9 2 rfl (.string mk) rfl rfl _ _ K10 Pl.iText (by simp) rfl ?_; intro w11 K11 f11))
        go_meet
        refine ⟨rfl, ?_, (HB9'.out.trans (hb10.mono hz9)).trans (f11.below (Nat.le_trans hz9 hb10.size) (fun k hk => by have h1 : k = g9 := hk; omega))⟩
        have h1 := HQ.out
        unfold Pl.plc
        rw [HPC.out, h1]
        exact K11
    case rest =>
      obtain ⟨wd, ewd⟩ : ∃ wd, wd = wc := ⟨_, rfl⟩
      subst ewd
      obtain ⟨rfl, KP, hbd⟩ := hcut.out
      have HKP2 := Lib.hid KP
      have hzd := hbd.size
      have HKS2 := Lib.hid (HKS.out.below' hbd)
      have hb0 : Below w.heap.size w wd := HB3'.out.trans (hbd.mono (by omega))
      have HB0 := Lib.hid hb0
      have HOW := Lib.hid (HB2.out.below hb0)
      have HBg := Lib.hid (HB1.out.below' hb0)
      have HMp := Lib.hid (HB3.out.kept (hb0.block m hml))
      have hz0 := hb0.size
      have hOB : ∀ k, (Value.slice A l.length cap).ownBlock = some k → k < w.heap.size ∧ k ≠ g ∧ k ≠ m := fun k hk => by
        obtain ⟨_, h2, cur, h3⟩ := HB2.out.blk k hk
        refine ⟨h2, fun e => ?_, fun e => ?_⟩
        · subst e; have := HB1.out; unfold Rw.Blk at this; rw [h3] at this; injection this with this; injection this with _ this; exact absurd this (by decide)
        · subst e; obtain ⟨es, ck, h6, _⟩ := HB3.out; rw [h3] at h6; cases h6
      have HOB := Lib.hid hOB
      have hgm : g ≠ m := fun e => by subst e; obtain ⟨es, ck, h6, _⟩ := HB3.out; have := HB1.out; unfold Rw.Blk at this; rw [this] at h6; cases h6
      have hll : (l.map (Pl.seatOf r.p)).length < 100000 := by rw [List.length_map]; exact hl
      have HLN : Hid (l.length + 1 = (l.map (Pl.seatOf r.p)).length + 1) := show _ = _ by rw [List.length_map]
      have cg : wd.cell? ⟨g, 0, none⟩ = some (.slice A l.length cap) := (HBg.out.cell 0).trans rfl
      have cs0 : wd.cell? ⟨w1.heap.size, 0, none⟩ = some (.int .i64 row) := (HKS2.out.cell 0).trans rfl
      have cs1 : wd.cell? ⟨w1.heap.size, 1, none⟩ = some (.int .u8 (Cd.bt r.p.lt i)) := (HKS2.out.cell 1).trans rfl
      have cga : (wd.alloc (.cells #[.int .i64 row, .int .u8 (Cd.bt r.p.lt i)] 37)).cell? ⟨g, 0, none⟩ = some (.slice A l.length cap) := ((HBg.out.below' ((Below.refl _ _).alloc (Nat.le_refl _) _)).cell 0).trans rfl
      have HSc : Hid (∀ nq, Pl.Sc (row, Cd.bt r.p.lt i) wd.heap.size 0 ((wd.alloc (.cells #[.int .i64 row, .int .u8 (Cd.bt r.p.lt i)] 37)).drewN nq)) := fun nq => Pl.Sc.new (row, Cd.bt r.p.lt i) wd
      have hba : Below wd.heap.size wd (wd.alloc (.cells #[.int .i64 row, .int .u8 (Cd.bt r.p.lt i)] 37)) := (Below.refl _ _).alloc (Nat.le_refl _) _
      have hgs : g < (wd.alloc (.cells #[.int .i64 row, .int .u8 (Cd.bt r.p.lt i)] 37)).drew.heap.size := Nat.lt_of_lt_of_le (Nat.lt_of_lt_of_le hgl hz0) hba.size
      have hbs : base ≤ (wd.alloc (.cells #[.int .i64 row, .int .u8 (Cd.bt r.p.lt i)] 37)).drew.heap.size := Nat.le_trans (Nat.le_trans hbase hz0) hba.size
      have HOWa : Hid (∀ nq, Pl.OwnS ((wd.alloc (.cells #[.int .i64 row, .int .u8 (Cd.bt r.p.lt i)] 37)).drewN nq) base (.slice A l.length cap) (l.map (Pl.seatOf r.p))) := fun nq => (HOW.out.below (Pl.below_drewN hba nq))
      clear hcut KP hbd hb0 hOB
      go_wp2
      go_cut [9] from 10 (fun s9 wx => Hid (s9 = .pointer (some ⟨g9, 0, none⟩) ∧ Pl.AddEnd base g m r.p l row (Cd.bt r.p.lt i) w wd wx))
      case first =>
        go_region_law (first
          | (refine Rw.wp_appendS (.tmp 38) (.tmp 40) rfl base (.slice A l.length cap) (l.map (Pl.seatOf r.p)) (row, Cd.bt r.p.lt i) (HOWa.out 1) rfl wd.heap.size rfl (HSc.out 1) hll hbs (l.length + 1) HLN.out ?_; intro A5 c5 w5 h51 h52 h53; have k5 : Rw.Blk w5 g 128 [.slice A l.length cap, .map (some m)] := (HBg.out.below' hba).kept (h53.out g hgs (fun e => (HOB.out g e).2.1 rfl)); have g5 : w5.cell? ⟨g, 0, none⟩ = some (.slice A l.length cap) := (k5.cell 0).trans rfl; have f5 : w5.frozen? ⟨g, 0, none⟩ = false := k5.free 0; clear k5))
        all_goals go_wp2
        all_goals go_meet
        all_goals exact ⟨rfl, Pl.AddEnd.mk (Pl.below_drewN hba 1) hz0 hbase HOB.out hgl hml h5 hgm HBg.out h51.out h52.out h53.out⟩
      case rest =>
        obtain ⟨we, ewe⟩ : ∃ we, we = wc := ⟨_, rfl⟩
        subst ewe
        obtain ⟨rfl, HAE⟩ := hcut.out
        obtain ⟨A5, c5, H51, H52, hb53, H54, H55⟩ := HAE
        have HO5 := Lib.hid H51
        have HG5 := Lib.hid H52
        have HBb := Lib.hid hb53
        have HMe : Hid (Mp.MapL Tryz.prog 37 we.drew m (Pl.ent r.p l)) := HMp.out.kept H55
        have HSe : Hid (Rw.Blk we w1.heap.size 37 [.int .i64 row, .int .u8 (Cd.bt r.p.lt i)]) := HKS2.out.kept (H54 _ (by omega) HKS2.out.lt)
        have HPe : Hid (Rw.Blk we g9 150 (Pl.plc r.p l.length (row, i))) := HKP2.out.kept (H54 _ (by omega) HKP2.out.lt)
        have d1 : we.cell? ⟨g, 1, none⟩ = some (.map (some m)) := (HG5.out.cell 1).trans rfl
        have d2 : we.cell? ⟨w1.heap.size, 0, none⟩ = some (.int .i64 row) := (HSe.out.cell 0).trans rfl
        have d3 : we.cell? ⟨w1.heap.size, 1, none⟩ = some (.int .u8 (Cd.bt r.p.lt i)) := (HSe.out.cell 1).trans rfl
        have d4 : we.cell? ⟨g9, 0, none⟩ = some (.int .i64 l.length) := (HPe.out.cell 0).trans rfl
        have d5 : we.cell? ⟨g9, 1, none⟩ = some (.bool (r.p.bl.contains (Pl.seatOf r.p (row, i)))) := (HPe.out.cell 1).trans rfl
        have d6 : we.cell? ⟨g9, 2, none⟩ = some (.string (Pl.mkq r.p (row, i))) := (HPe.out.cell 2).trans rfl
        obtain ⟨w6, l6, hrun, HM6, HOn, HU⟩ := HMe.out.upd Pl.lawKey (Pl.sv_key HRW.out) Pl.uMap (.agg (Pl.plc r.p l.length (row, i)).toArray)
        have HU6 : Hid (l6 = Pl.ent r.p (l ++ [(row, i)])) := show _ = _ by
          rcases HU with ⟨_, rfl⟩ | ⟨j, u, hj, _⟩
          · rw [Pl.ent_append]
          · obtain ⟨j2, hj2, e2⟩ := Pl.ent_mem (List.mem_iff_getElem?.2 ⟨j, hj⟩)
            injection e2 with e2 _
            exact absurd (Pl.sv_inj e2).symm (HNW.out _ (List.getElem_mem hj2))
        have HMA : Hid (Pl.MapAt w6 base g r.p (l ++ [(row, i)])) := by
          have hne : ∀ (gg : Nat) (cur : Array Value) (t : TypeId), we.heap[gg]? = some (Obj.cells cur t (0, 0)) → w6.heap[gg]? = we.heap[gg]? := fun gg cur t hg => HOn.block gg (fun e => by subst e; obtain ⟨es, ck, h, _⟩ := HMe.out; exact absurd (h.symm.trans hg) (by simp))
          refine ⟨⟨A5, c5, m, ?_, ?_, ?_, h4⟩, h5⟩
          · rw [List.length_append]; exact HG5.out.kept (hne g _ _ HG5.out)
          · rw [List.map_append, List.length_append]; exact HO5.out.kept fun gg cur hg => hne gg cur _ hg
          · rw [← HU6.out]; exact HM6
        have HBe : Hid (Below base w w6) := (HB0.out.mono hbase).trans ((HBb.out.drew).trans (HOn.below h4))
        have e1 : Pl.sv (Pl.seatOf r.p (row, i)) = .agg #[.int .i64 row, .int .u8 (Cd.bt r.p.lt i)] := rfl
        rw [e1] at hrun
        unfold Pl.plc at hrun
        generalize r.p.bl.contains (Pl.seatOf r.p (row, i)) = bq at *
        generalize Pl.mkq r.p (row, i) = tq at *
        clear hcut H51 H52 hb53 H54 H55 HM6 HOn HU e1 cg cga cs0 cs1
        go_wp2
        go_region
        all_goals go_wp2
        all_goals go_end0
        all_goals exact ⟨rfl, HMA.out, HBe.out⟩
end Go.Proofs.YtfodabbmjggieaaGreat
namespace Go.Proofs.YtfodabbmjggieaaGreat
open Go.RowKit Go.WideMaps
set_option linter.unusedVariables false

namespace Pl
def num (p : P) (s : S) : Int := if s ∈ all p then ((all p).idxOf s : Nat) else -1
def hasS (p : P) (s : S) : Bool := (all p).contains s && !p.bl.contains s
def mkS (p : P) (s : S) : ByteArray := if hasS p s then marks p s.1 ((Cd.bs p.lt).idxOf s.2) else ⟨#[]⟩
theorem nodup_inj {α : Type} : ∀ {l : List α} {i j : Nat} (hi : i < l.length) (hj : j < l.length), l.Nodup → l[i] = l[j] → i = j := by
  intro l i j hi hj hn e
  rcases Nat.lt_trichotomy i j with h | h | h
  · exact absurd e (List.pairwise_iff_getElem.1 hn i j hi hj h)
  · exact h
  · exact absurd e.symm (List.pairwise_iff_getElem.1 hn j i hj hi h)
theorem idxOf_at {α : Type} [BEq α] [LawfulBEq α] {l : List α} {j : Nat} (hj : j < l.length) (hn : l.Nodup) : l.idxOf l[j] = j := by
  have h1 : l.idxOf l[j] < l.length := List.idxOf_lt_length_of_mem (List.getElem_mem hj)
  exact nodup_inj h1 hj hn (List.getElem_idxOf h1)
theorem bt_at (s : ByteArray) (i : Nat) (h : i < (Cd.bs s).length) : (Cd.bs s)[i] = Cd.bt s i := by
  unfold Cd.bt
  rw [List.getD_eq_getElem?_getD, List.getElem?_eq_getElem h]
  rfl
theorem cols_mem {p : P} {i : Nat} : i ∈ cols p ↔ i < p.lt.size ∧ Cd.bt p.lt i ≠ 46 := by
  simp [cols, colsTo]
theorem cols_inj {p : P} (h : lettersOk p.lt = true) {i j : Nat} (hi : i ∈ cols p) (hj : j ∈ cols p) (e : Cd.bt p.lt i = Cd.bt p.lt j) : i = j := by
  have h1 := (lets_ok h).1
  rw [← lets_cols, List.pairwise_map] at h1
  obtain ⟨a, ha, rfl⟩ := List.getElem_of_mem hi
  obtain ⟨b, hb, rfl⟩ := List.getElem_of_mem hj
  rcases Nat.lt_trichotomy a b with h | h | h
  · have := List.pairwise_iff_getElem.1 h1 a b ha hb h; omega
  · simp [h]
  · have := List.pairwise_iff_getElem.1 h1 b a hb ha h; omega
theorem col_ix {p : P} (h : lettersOk p.lt = true) {i : Nat} (hi : i ∈ cols p) : (Cd.bs p.lt).idxOf (Cd.bt p.lt i) = i := by
  obtain ⟨h1, h2⟩ := cols_mem.1 hi
  have hl : i < (Cd.bs p.lt).length := by rw [Cd.length_bs]; exact h1
  have hm : Cd.bt p.lt i ∈ Cd.bs p.lt := by rw [← bt_at _ _ hl]; exact List.getElem_mem hl
  have h3 := List.idxOf_lt_length_of_mem hm
  have h4 := List.getElem_idxOf h3
  rw [bt_at] at h4
  refine cols_inj h (cols_mem.2 ⟨by rwa [Cd.length_bs] at h3, by rw [h4]; exact h2⟩) hi h4
theorem pls_mem {p : P} {q : Int × Nat} (h : q ∈ pls p) : q.2 ∈ cols p := by
  unfold pls upto at h
  rw [List.mem_flatMap] at h
  obtain ⟨j, _, hq⟩ := h
  obtain ⟨i, hi, rfl⟩ := List.mem_map.1 hq
  exact hi
theorem all_get (p : P) (j : Nat) (hj : j < (pls p).length) (hl : j < (all p).length) : (all p)[j] = seatOf p (pls p)[j] := by simp only [all, List.getElem_map]
theorem num_at {p : P} (h : lettersOk p.lt = true) {j : Nat} (hj : j < (pls p).length) : num p (seatOf p (pls p)[j]) = j := by
  have hl : j < (all p).length := by unfold all; rwa [List.length_map]
  have e : seatOf p (pls p)[j] = (all p)[j] := (all_get p j hj hl).symm
  unfold num
  rw [e, if_pos (List.getElem_mem hl), idxOf_at hl (all_nodup h)]
theorem mkq_at {p : P} (h : lettersOk p.lt = true) {j : Nat} (hj : j < (pls p).length) : mkq p (pls p)[j] = mkS p (seatOf p (pls p)[j]) := by
  have hl : j < (all p).length := by unfold all; rwa [List.length_map]
  have e : seatOf p (pls p)[j] = (all p)[j] := (all_get p j hj hl).symm
  have h1 : (all p).contains (seatOf p (pls p)[j]) = true := by rw [e]; simp
  unfold mkq mkS hasS
  rw [h1]
  cases hb : p.bl.contains (seatOf p (pls p)[j])
  · simp only [Bool.not_false, Bool.and_self, if_true]
    have := col_ix h (pls_mem (List.getElem_mem hj))
    unfold seatOf
    simp only
    rw [this]
    rfl
  · simp
end Pl
namespace Mp
theorem MapL.look1 {P : Program} {k : TypeId} {w : World} {r : Nat} {l : List (Value × Value)} (K : KeyLaw P k) (h : MapL P k w r l) {key : Value} (hk : KeyIs P k key) {t e : TypeId} (ht : P.underlying t = some (.map k e)) (z : Value) (hz : (zeroValue e).run P w = .ok z w) :
    (∃ (j : Nat) (v : Value), l[j]? = some (key, v) ∧ (Instr.lookup t (.map (some r)) key false).run P w = .ok v w) ∨ ((∀ p ∈ l, p.1 ≠ key) ∧ (Instr.lookup t (.map (some r)) key false).run P w = .ok z w) := by
  obtain ⟨es, ck, hb, he, hI⟩ := h
  obtain ⟨kl, hkl⟩ := hk
  rcases K.find w hkl es.toList (keys_of he hI) with ⟨h1, h2⟩ | ⟨j, e0, h1, h2, h3⟩
  · right
    refine ⟨fun p hp => ?_, by simp [Instr.lookup, run_underlying ht, MapKept.run_getObj_map hb, K.check w _ hkl, h1, hz]⟩
    rw [← he] at hp
    obtain ⟨e1, g1, g2⟩ := List.mem_map.1 hp
    rw [← g2]
    exact h2 e1 g1
  · left
    refine ⟨j, e0.val, ?_, by simp [Instr.lookup, run_underlying ht, MapKept.run_getObj_map hb, K.check w _ hkl, h1]⟩
    rw [← he, List.getElem?_map, h2, Option.map_some, h3]
end Mp
namespace Pl
/-- What a look at the map finds. -/
def Found (p : P) (s : S) (n : Int) (bq there : Bool) (t : ByteArray) : Prop := there = (all p).contains s ∧ (there = true → n = num p s ∧ bq = p.bl.contains s) ∧ t = mkS p s
theorem look {w : World} {m : Nat} {p : P} (hl : lettersOk p.lt = true) (h : Mp.MapL Tryz.prog 37 w m (ent p (pls p))) {s : S} (hs : WS s) :
    ∃ (n : Int) (bq there : Bool) (t : ByteArray), Found p s n bq there t ∧ (∀ w' : World, w'.heap[m]? = w.heap[m]? → (Instr.lookup 126 (.map (some m)) (sv s) true).run Tryz.prog w' = .ok (.tuple #[.agg #[.int .i64 n, .bool bq, .string t], .bool there]) w') ∧ (∀ w' : World, w'.heap[m]? = w.heap[m]? → (Instr.lookup 126 (.map (some m)) (sv s) false).run Tryz.prog w' = .ok (.agg #[.int .i64 n, .bool bq, .string t]) w') := by
  by_cases hm : s ∈ all p
  · have hm2 := hm
    unfold all at hm2
    obtain ⟨q, hq, hqs⟩ := List.mem_map.1 hm2
    obtain ⟨j, hj, rfl⟩ := List.getElem_of_mem hq
    subst hqs
    have hf : ∀ (j2 : Nat) (v : Value), (ent p (pls p))[j2]? = some (sv (seatOf p (pls p)[j]), v) → v = .agg (plc p j (pls p)[j]).toArray := fun j2 v h2 => by
      have hj2 : j2 < (pls p).length := by have := (List.getElem?_eq_some_iff.1 h2).1; rwa [ent_len] at this
      rw [ent_get p _ j2 hj2] at h2
      injection h2 with h2
      injection h2 with h2 h3
      have e := sv_inj h2
      have n1 := num_at hl hj2
      rw [e, num_at hl hj] at n1
      have : j2 = j := by omega
      subst this
      exact h3.symm
    have hno : ¬ ∀ e ∈ ent p (pls p), e.1 ≠ sv (seatOf p (pls p)[j]) := fun hc => hc _ (List.mem_iff_getElem?.2 ⟨j, ent_get p _ j hj⟩) rfl
    refine ⟨j, p.bl.contains (seatOf p (pls p)[j]), true, mkq p (pls p)[j], ⟨by simpa using hm, fun _ => ⟨(num_at hl hj).symm, rfl⟩, mkq_at hl hj⟩, fun w' hw => ?_, fun w' hw => ?_⟩
    · rcases (h.kept hw).look lawKey (sv_key hs) uMap _ (zPlace w') with ⟨j2, v, h2, hr⟩ | ⟨h2, _⟩
      · rw [hr, hf j2 v h2]; rfl
      · exact absurd h2 hno
    · rcases (h.kept hw).look1 lawKey (sv_key hs) uMap _ (zPlace w') with ⟨j2, v, h2, hr⟩ | ⟨h2, _⟩
      · rw [hr, hf j2 v h2]; rfl
      · exact absurd h2 hno
  · have hf : ∀ (j2 : Nat) (v : Value), (ent p (pls p))[j2]? ≠ some (sv s, v) := fun j2 v h2 => by
      obtain ⟨j, hj, e⟩ := ent_mem (List.mem_iff_getElem?.2 ⟨j2, h2⟩)
      injection e with e _
      exact hm (by rw [sv_inj e]; unfold all; exact List.mem_map.2 ⟨_, List.getElem_mem hj, rfl⟩)
    have hc : (all p).contains s = false := by simpa using hm
    refine ⟨0, false, false, ⟨#[]⟩, ⟨hc.symm, fun h => by (cases h), by simp only [mkS, hasS, hc]; rfl⟩, fun w' hw => ?_, fun w' hw => ?_⟩
    · rcases (h.kept hw).look lawKey (sv_key hs) uMap _ (zPlace w') with ⟨j2, v, h2, hr⟩ | ⟨_, hr⟩
      · exact absurd h2 (hf j2 v)
      · exact hr
    · rcases (h.kept hw).look1 lawKey (sv_key hs) uMap _ (zPlace w') with ⟨j2, v, h2, hr⟩ | ⟨_, hr⟩
      · exact absurd h2 (hf j2 v)
      · exact hr
end Pl
end Go.Proofs.YtfodabbmjggieaaGreat
namespace Go.Proofs.YtfodabbmjggieaaGreat
open Go.RowKit Go.WideMaps
set_option linter.unusedVariables false

namespace Pl
theorem Found.has {p : P} {s : S} {n : Int} {bq there : Bool} {t : ByteArray} (h : Found p s n bq there t) : hasS p s = (there && !bq) := by
  obtain ⟨h1, h2, _⟩ := h
  unfold hasS
  rw [← h1]
  cases there
  · rfl
  · rw [(h2 rfl).2]
theorem Found.num {p : P} {s : S} {n : Int} {bq : Bool} {t : ByteArray} (h : Found p s n bq true t) : Pl.num p s = n := ((h.2.1 rfl).1).symm
theorem Found.non {p : P} {s : S} {n : Int} {bq : Bool} {t : ByteArray} (h : Found p s n bq false t) : Pl.num p s = -1 := by
  have : s ∉ all p := by simpa using h.1.symm
  unfold Pl.num
  rw [if_neg this]
end Pl
set_option maxHeartbeats 1000000 in
set_option maxRecDepth 20000 in
theorem has_any (p : Pl.P) (s : Pl.S) (base g : Nat) (w : World) (hl : Pl.lettersOk p.lt = true) (hm : Pl.MapAt w base g p (Pl.pls p)) (hs : Pl.WS s) :
    Calls Tryz.prog 50 #[.pointer (some ⟨g, 0, none⟩), Pl.sv s] w fun e w' => e = .returned (.bool (Pl.hasS p s)) ∧ Below w.heap.size w w' := by
  obtain ⟨A, cap, m, H1, H2, H3, h4⟩ := hm.at_
  obtain ⟨n, bq, there, t, hF, hL, _⟩ := Pl.look hl H3 hs
  have HF : Hid (Pl.hasS p s = (there && !bq)) := hF.has
  have HML := H3.lt
  have HGL := H1.lt
  have HG := Lib.hid H1
  have HL := Lib.hid hL
  clear hL hF H1 H2 H3 hm hs hl
  generalize Pl.hasS p s = res at *
  obtain ⟨s1, s2⟩ := s
  unfold Pl.sv at HL ⊢
  simp only at HL ⊢
  obtain ⟨w1, ew1⟩ : ∃ w1, w1 = w.alloc (.cells #[.int .i64 s1, .int .u8 s2] 37) := ⟨_, rfl⟩
  have hb1 : Below w.heap.size w w1 := by rw [ew1]; exact (Below.refl _ _).alloc (Nat.le_refl _) _
  have HB1 := Lib.hid hb1
  have hz1 : w.heap.size < w1.heap.size := by rw [ew1]; simp
  have hrun := HL.out w1.drew (hb1.block m HML)
  have cg : w1.cell? ⟨g, 1, none⟩ = some (.map (some m)) := ((HG.out.below' hb1).cell 1).trans rfl
  have HK : Rw.Blk w1 w.heap.size 37 [.int .i64 s1, .int .u8 s2] := by rw [ew1]; exact heap_alloc_new w _
  have cs0 : w1.cell? ⟨w.heap.size, 0, none⟩ = some (.int .i64 s1) := (HK.cell 0).trans rfl
  have cs1 : w1.cell? ⟨w.heap.size, 1, none⟩ = some (.int .u8 s2) := (HK.cell 1).trans rfl
  have ba : Below w1.heap.size w1 (w1.alloc (.cells #[.int .i64 0, .bool false, .string ⟨#[]⟩] 150)) := (Below.refl _ _).alloc (Nat.le_refl _) _
  have hrun2 := HL.out (w1.alloc (.cells #[.int .i64 0, .bool false, .string ⟨#[]⟩] 150)).drew ((ba.block m (by have := hb1.size; omega)).trans (hb1.block m HML))
  have cg2 : (w1.alloc (.cells #[.int .i64 0, .bool false, .string ⟨#[]⟩] 150)).cell? ⟨g, 1, none⟩ = some (.map (some m)) := (ba.cell (p := ⟨g, 1, none⟩) (by have := hb1.size; show g < _; omega)).trans cg
  have cs02 : (w1.alloc (.cells #[.int .i64 0, .bool false, .string ⟨#[]⟩] 150)).cell? ⟨w.heap.size, 0, none⟩ = some (.int .i64 s1) := (ba.cell (p := ⟨w.heap.size, 0, none⟩) hz1).trans cs0
  have cs12 : (w1.alloc (.cells #[.int .i64 0, .bool false, .string ⟨#[]⟩] 150)).cell? ⟨w.heap.size, 1, none⟩ = some (.int .u8 s2) := (ba.cell (p := ⟨w.heap.size, 1, none⟩) hz1).trans cs1
  have hzw := hb1.size
  clear HK ba
  cases there with
  | true =>
    go_enter Tryz.func50, Tryz.ntmps50
    go_wp2
    rw [← ew1]
    clear ew1 hb1
    go_region
    all_goals go_wp2
    all_goals go_ret
    all_goals exact ⟨Pl.ret_bool (by rw [HF.out]; rfl), HB1.out.trans (Below.mono (by exact ((Below.refl _ _).alloc (Nat.le_refl _) _).drew) (Nat.le_of_lt hz1))⟩
  | false =>
    go_enter Tryz.func50, Tryz.ntmps50
    go_wp2
    rw [← ew1]
    clear ew1 hb1
    go_region
    all_goals go_wp2
    all_goals go_ret
    all_goals exact ⟨Pl.ret_bool (by rw [HF.out]; rfl), HB1.out.trans (Below.mono (by exact ((Below.refl _ _).alloc (Nat.le_refl _) _).drew) (Nat.le_of_lt hz1))⟩
end Go.Proofs.YtfodabbmjggieaaGreat
namespace Go.Proofs.YtfodabbmjggieaaGreat
open Go.RowKit Go.WideMaps
set_option linter.unusedVariables false

namespace Pl
def seatsOf (p : P) : List S := (all p).filter (hasS p)
/-- A list of seats is answered. -/
def SeatsR (l : List S) (w : World) (e : Ending) (w' : World) : Prop := ∃ A c, e = .returned (.slice A l.length c) ∧ OwnS w' w.heap.size (.slice A l.length c) l ∧ Below w.heap.size w w'
theorem gS_pair (l : List S) (k : Nat) (h : k < l.length) : l[k] = (gR l k, gC l k) := gS l k h
theorem take_filter {l : List S} {f : S → Bool} {k : Nat} (h : k < l.length) : (l.take (k + 1)).filter f = (l.take k).filter f ++ (if f (gR l k, gC l k) then [(gR l k, gC l k)] else []) := by
  rw [List.take_succ_eq_append_getElem h, List.filter_append, gS l k h]
  cases hf : f (gR l k, gC l k) <;> simp [hf]
theorem OwnS.at {w : World} {base n cap : Nat} {A : Option Addr} {l : List S} (h : OwnS w base (.slice A n cap) l) (k : Nat) (hk : k < l.length) : ∃ b, A = some ⟨b, 0, none⟩ ∧ b < w.heap.size ∧ base ≤ b ∧ w.cell? ⟨b, k * 2, none⟩ = some (.int .i64 (gR l k)) ∧ w.cell? ⟨b, k * 2 + 1, none⟩ = some (.int .u8 (gC l k)) := by
  obtain ⟨A', cap', hv, _, hF⟩ := h.sts
  injection hv with e1 e2 e3
  subst e1
  obtain ⟨_, ⟨hv', h0⟩ | ⟨g, cap2, cur, hv', hg, hh, h3⟩⟩ := h
  · omega
  · injection hv' with e1 e2 e3
    subst e1
    obtain ⟨b, off, e, hb, hc⟩ := hF (by omega)
    injection e with e
    injection e with e4 e5 e6
    subst e4 e5
    obtain ⟨c1, c2⟩ := hc k hk
    rw [Nat.zero_add] at c1 c2
    exact ⟨g, rfl, hb, hg, c1, c2⟩
theorem all_WS {p : P} (ho : rowsOk p = true) {s : S} (h : s ∈ all p) : WS s := by
  unfold all pls upto at h
  obtain ⟨q, hq, rfl⟩ := List.mem_map.1 h
  obtain ⟨j, hj, hq⟩ := List.mem_flatMap.1 hq
  obtain ⟨i, hi, rfl⟩ := List.mem_map.1 hq
  rw [List.mem_range] at hj
  simp [rowsOk] at ho
  unfold nrows at hj
  refine ⟨?_, ?_, Cd.bt_lo _ _, Cd.bt_hi _ _⟩ <;> simp only [seatOf] <;> omega
theorem pls_len (p : P) : (pls p).length = (all p).length := by unfold all; rw [List.length_map]
end Pl
set_option maxHeartbeats 1000000 in
set_option maxRecDepth 20000 in
theorem seats_any (p : Pl.P) (base g : Nat) (w : World) (ho : Pl.rowsOk p = true) (hl : Pl.lettersOk p.lt = true) (hm : Pl.MapAt w base g p (Pl.pls p)) :
    Calls Tryz.prog 35 #[.pointer (some ⟨g, 0, none⟩)] w (Pl.SeatsR (Pl.seatsOf p) w) := by
  obtain ⟨A, cap, m, H1, H2, H3, h4⟩ := hm.at_
  rw [Pl.pls_len] at H1 H2
  have hlen := Pl.all_len hl ho
  have HOR := Lib.hid H2
  have HF := Lib.hid (fun s (W : World) (hb : Below w.heap.size w W) (hs : Pl.WS s) => has_any p s base g W hl (hm.below hb) hs)
  have HWS := Lib.hid (fun s (h : s ∈ Pl.all p) => Pl.all_WS ho h)
  have HRS : Hid (((Pl.all p).take (Pl.all p).length).filter (Pl.hasS p) = Pl.seatsOf p) := show _ = _ by rw [List.take_length]; rfl
  have HTK := Lib.hid (fun k (h : k < (Pl.all p).length) => Pl.take_filter (f := Pl.hasS p) h)
  have HMEM : Hid (∀ k, k < (Pl.all p).length → (Pl.gR (Pl.all p) k, Pl.gC (Pl.all p) k) ∈ Pl.all p) := fun k h => by rw [← Pl.gS _ _ h]; exact List.getElem_mem h
  have cg : w.cell? ⟨g, 0, none⟩ = some (.slice A (Pl.all p).length cap) := (H1.cell 0).trans rfl
  have H20 : Hid (List.map (Pl.seatOf p) (Pl.pls p) = Pl.all p) := show _ = _ by rfl
  rw [H20.out] at HOR
  clear H1 H2 H3 h4 hm ho hl H20
  generalize Pl.all p = al at *
  go_enter Tryz.func35, Tryz.ntmps35
  go_wp2
  go_loopw [3, 11] (fun out i wr => ∃ (k : Nat) (l : List Pl.S) (B : Option Addr) (c : Nat), k ≤ al.length ∧ i = .int .i64 k ∧ out = .slice B l.length c ∧ l.length ≤ k ∧ Hid (Pl.OwnS wr w.heap.size (.slice B l.length c) l) ∧ Hid ((al.take k).filter (Pl.hasS p) = l) ∧ Hid (Below w.heap.size w wr)) (fun _ i _ => al.length - (intOf i).toNat)
  case atStart => exact ⟨0, [], none, 0, by omega, rfl, rfl, by simp, Pl.OwnS.nil _ _, show _ = _ by simp, Below.refl _ _⟩
  case round =>
    obtain ⟨k, l, B, c, hk, rfl, rfl, hlk, HO, HL, HB⟩ := hrel
    by_cases hlt : k < al.length
    · obtain ⟨b, rfl, hb, hbb, c0, c1⟩ := HOR.out.at k hlt
      have q0 : wr.cell? ⟨b, k * 2, none⟩ = some (.int .i64 (Pl.gR al k)) := (HB.out.cell (p := ⟨b, k * 2, none⟩) hb).trans c0
      have q1 : wr.cell? ⟨b, k * 2 + 1, none⟩ = some (.int .u8 (Pl.gC al k)) := (HB.out.cell (p := ⟨b, k * 2 + 1, none⟩) hb).trans c1
      have hzr := HB.out.size
      have HT := Lib.hid (HTK.out k hlt)
      have HFk := Lib.hid (fun (W : World) (hb : Below w.heap.size w W) => HF.out (Pl.gR al k, Pl.gC al k) W hb (HWS.out _ (HMEM.out k hlt)))
      generalize Pl.gR al k = sr at *
      generalize Pl.gC al k = sc at *
      unfold Pl.sv at HFk
      simp only at HFk
      cases hh : Pl.hasS p (sr, sc) with
      | false =>
        rw [hh] at HT HFk
        have HT2 : Hid ((al.take (k + 1)).filter (Pl.hasS p) = l) := show _ = _ by rw [HT.out, HL.out]; simp
        clear hh
        go_wp2_with (first
          | (refine Rw.wpList_alloc rfl 37 rfl [.int .i64 0, .int .u8 0] Pl.zSeat ?_; intro w2 K2 b2 z2; have HZ2 := Lib.hid z2; clear z2)
          | (refine Rw.wpList_store_whole rfl 37 _ _ rfl wr.heap.size rfl [.int .i64 sr, .int .u8 sc] rfl _ _ K2 Pl.iSeat rfl (by intro v hv; simp at hv; rcases hv with rfl | rfl <;> rfl) ?_; intro w3 K3 f3; have b3 : Below wr.heap.size wr w3 := b2.trans (f3.below b2.size (fun k hk => Nat.le_of_eq hk.symm)); have b03 := HB.out.trans (b3.mono hzr); have e0 : w3.cell? ⟨wr.heap.size, 0, none⟩ = some (.int .i64 sr) := (K3.cell 0).trans rfl; have e1 : w3.cell? ⟨wr.heap.size, 1, none⟩ = some (.int .u8 sc) := (K3.cell 1).trans rfl; have HFw := Lib.hid (HFk.out w3 b03))
          | (go_at_call 50; refine HFw.out.mono ?_; rintro e w4 ⟨rfl, hb4⟩; have b34 : Below wr.heap.size wr w4 := b3.trans (hb4.mono b3.size); have b04 := b03.trans (hb4.mono b03.size)))
        go_roundw
        case rel => exact ⟨k + 1, l, B, c, by omega, by go_num, rfl, by omega, HO.out.below b34, HT2, b04⟩
        case measure => simp [intOf]; omega
      | true =>
        rw [hh] at HT HFk
        have HT2 : Hid ((al.take (k + 1)).filter (Pl.hasS p) = l ++ [(sr, sc)]) := show _ = _ by rw [HT.out, HL.out]; simp
        have hl6 : l.length < 100000 := by omega
        clear hh
        go_wp2_with (first
          | (refine Rw.wpList_alloc rfl 37 rfl [.int .i64 0, .int .u8 0] Pl.zSeat ?_; intro w2 K2 b2 z2; have HZ2 := Lib.hid z2; clear z2)
          | (refine Rw.wpList_store_whole rfl 37 _ _ rfl wr.heap.size rfl [.int .i64 sr, .int .u8 sc] rfl _ _ K2 Pl.iSeat rfl (by intro v hv; simp at hv; rcases hv with rfl | rfl <;> rfl) ?_; intro w3 K3 f3; have b3 : Below wr.heap.size wr w3 := b2.trans (f3.below b2.size (fun k hk => Nat.le_of_eq hk.symm)); have b03 := HB.out.trans (b3.mono hzr); have e0 : w3.cell? ⟨wr.heap.size, 0, none⟩ = some (.int .i64 sr) := (K3.cell 0).trans rfl; have e1 : w3.cell? ⟨wr.heap.size, 1, none⟩ = some (.int .u8 sc) := (K3.cell 1).trans rfl; have HFw := Lib.hid (HFk.out w3 b03))
          | (go_at_call 50; refine HFw.out.mono ?_; rintro e w4 ⟨rfl, hb4⟩; have b34 : Below wr.heap.size wr w4 := b3.trans (hb4.mono b3.size); have b04 := b03.trans (hb4.mono b03.size); have ba : Below w4.heap.size w4 (w4.alloc (.cells #[.int .i64 sr, .int .u8 sc] 37)) := (Below.refl _ _).alloc (Nat.le_refl _) _; have HOa := Lib.hid ((HO.out.below b34).below ba); have hba := Nat.le_trans b04.size ba.size; have b05 := b04.trans (ba.mono b04.size); have HSc := Lib.hid (Pl.Sc.new (sr, sc) w4); have m0 := (hb4.cell (p := ⟨wr.heap.size, 0, none⟩) K3.lt).trans e0; have m1 := (hb4.cell (p := ⟨wr.heap.size, 1, none⟩) K3.lt).trans e1)
          | (refine Rw.wpList_appendS rfl (.tmp 18) (.tmp 20) rfl w.heap.size (.slice B l.length c) l (sr, sc) HOa.out rfl w4.heap.size rfl HSc.out hl6 hba (l.length + 1) rfl ?_; intro A5 c5 w5 h51 h52 h53))
        go_roundw
        case rel => exact ⟨k + 1, l ++ [(sr, sc)], A5, c5, by omega, by go_num, by simp, by simp; omega, by simpa using h51, HT2, b05.trans h52.out⟩
        case measure => simp [intOf]; omega
    · have hkn : k = al.length := by omega
      subst hkn
      rw [HRS.out] at HL
      have h1 := HL.out
      clear HL
      subst h1
      go_wp2
      go_ret
      exact ⟨B, c, rfl, HO.out, HB.out⟩
end Go.Proofs.YtfodabbmjggieaaGreat
namespace Go.Proofs.YtfodabbmjggieaaGreat
open Go.RowKit Go.WideMaps
set_option linter.unusedVariables false

namespace Pl
theorem right_parts {p : P} (h : right p = true) : rowsOk p = true ∧ lettersOk p.lt = true := by
  simp only [right, Bool.and_eq_true] at h
  exact ⟨h.1.1.1, h.1.1.2⟩
theorem rows_bd {p : P} (h : rowsOk p = true) : 1 ≤ p.fr ∧ p.fr ≤ p.la ∧ p.la ≤ 60 ∧ p.fr + (nrows p : Int) = p.la + 1 := by
  simp [rowsOk] at h
  unfold nrows
  omega
def NewR (r : R) (w : World) (e : Ending) (w' : World) : Prop := ∃ g, e = .returned (.tuple #[.pointer (some ⟨g, 0, none⟩), .int .i64 0]) ∧ MapAt w' w.heap.size g r.p (pls r.p) ∧ Below w.heap.size w w'
end Pl
set_option maxHeartbeats 1000000 in
set_option maxRecDepth 20000 in
theorem pnew_wrong (r : Pl.R) (B : Nat) (w : World) (hw : Pl.Wf r) (he : Pl.Ints w B r.eA r.p.ex) (hbl : Pl.Sts w B r.bA r.p.bl) (hB : B ≤ w.heap.size) (hr : Pl.right r.p = false) :
    Calls Tryz.prog 43 #[Pl.pv r] w fun e w' => e = .returned (.tuple #[.pointer none, .int .i64 4]) ∧ Below w.heap.size w w' := by
  have HC := Lib.hid (fun (W : World) (hb : Below w.heap.size w W) => pcheck_any r B W hw (he.below hb hB) (hbl.below hb hB) (Nat.le_trans hB hb.size))
  have hc : Pl.code r.p = 4 := by unfold Pl.code; rw [hr]; rfl
  rw [hc] at HC
  have e0 : Pl.pv r = .agg (Pl.enc r).toArray := rfl
  rw [e0] at HC ⊢
  clear e0 hc hr he hbl hw
  go_enter Tryz.func43, Tryz.ntmps43
  go_wp2_with (first
    | (refine Rw.wpList_box rfl 74 _ rfl (Pl.enc r) rfl ?_; intro w1 K1 b1 z1; have HC1 := Lib.hid (HC.out w1 b1); clear z1)
    | (refine wpList_load_mid rfl 74 _ rfl w.heap.size 0 rfl (Pl.enc r) _ K1.range Pl.uP Pl.rP Pl.iP ?_)
    | (go_at_call 68; refine HC1.out.mono ?_; rintro e w2 ⟨rfl, hb2⟩; have hb02 := b1.trans (hb2.mono b1.size)))
  go_ret2
  exact ⟨rfl, hb02⟩
set_option maxHeartbeats 2000000 in
set_option maxRecDepth 20000 in
theorem pnew_right (r : Pl.R) (B : Nat) (w : World) (hw : Pl.Wf r) (he : Pl.Ints w B r.eA r.p.ex) (hbl : Pl.Sts w B r.bA r.p.bl) (hB : B ≤ w.heap.size) (hr : Pl.right r.p = true) :
    Calls Tryz.prog 43 #[Pl.pv r] w (Pl.NewR r w) := by
  have HC := Lib.hid (fun (W : World) (hb : Below w.heap.size w W) => pcheck_any r B W hw (he.below hb hB) (hbl.below hb hB) (Nat.le_trans hB hb.size))
  have hc : Pl.code r.p = 0 := by unfold Pl.code; rw [hr]; rfl
  rw [hc] at HC
  obtain ⟨ho, hl⟩ := Pl.right_parts hr
  obtain ⟨r1, r2, r3, r4⟩ := Pl.rows_bd ho
  have HR4 := Lib.hid r4
  have HO := Lib.hid ho
  have HL := Lib.hid hl
  have HWF := Lib.hid hw
  have HE := Lib.hid he
  have HBL := Lib.hid hbl
  have hsz := hw.s
  have e0 : Pl.pv r = .agg (Pl.enc r).toArray := rfl
  have HAD := Lib.hid (fun (row : Int) (i base g : Nat) (l : List (Int × Nat)) (W : World) (hb : Below w.heap.size w W) (hi : i < r.p.lt.size) => add_any r row i B base g l W hw hi (he.below hb hB) (hbl.below hb hB) (Nat.le_trans hB hb.size))
  rw [e0] at HC HAD ⊢
  have hmm := @run_makeMap Tryz.prog
  have hgb := Cd.get_bt r.p.lt
  clear e0 hc hr he hbl hw r4 ho hl
  go_enter Tryz.func43, Tryz.ntmps43
  go_wp2_with (first
    | (refine Rw.wpList_box rfl 74 _ rfl (Pl.enc r) rfl ?_; intro w1 K1 b1 z1; have HC1 := Lib.hid (HC.out w1 b1); have HZ1 := Lib.hid z1; clear z1)
    | (refine wpList_load_mid rfl 74 _ rfl w.heap.size 0 rfl (Pl.enc r) _ K1.range Pl.uP Pl.rP Pl.iP ?_)
    | (go_at_call 68; refine HC1.out.mono ?_; rintro e w2 ⟨rfl, hb2⟩; have K2 := K1.below' hb2)
    | (refine Rw.wpList_box rfl 128 _ rfl [.slice none 0 0, .map (some w2.heap.size)] rfl ?_; intro w3 K3 b3 z3; have K23 : Rw.Blk w3 w.heap.size 74 (Pl.enc r) := (K2.below' ((Below.refl _ _).alloc (Nat.le_refl _) (.map #[] 0))).below' b3; have cp0 : w3.cell? ⟨w.heap.size, 0, none⟩ = some (.int .i64 r.p.fr) := (K23.cell 0).trans rfl))
  have hz1 : w.heap.size < w1.heap.size := by have := HZ1.out; omega
  have hbm : Below w2.heap.size w2 (w2.alloc (.map #[] 0)) := (Below.refl _ _).alloc (Nat.le_refl _) _
  have hb13 : Below w1.heap.size w1 w3 := (hb2.trans (hbm.mono hb2.size)).trans (b3.mono (Nat.le_trans hb2.size hbm.size))
  have h13 := hb13.size
  have HB13 := Lib.hid hb13
  have HB1 := Lib.hid b1
  have HMA : Hid (Pl.MapAt w3 w1.heap.size (w2.alloc (.map #[] 0)).heap.size r.p (Pl.upto r.p 0)) := by
    refine ⟨⟨none, 0, w2.heap.size, K3, Pl.OwnS.nil _ _, ?_, hb2.size⟩, Nat.le_trans hb2.size hbm.size⟩
    exact (Mp.MapL.made Tryz.prog 37 w2).kept (b3.block _ (by simp))
  have hg1 : (w2.alloc (.map #[] 0)).heap.size = w2.heap.size + 1 := by simp
  rw [hg1] at HMA
  clear hg1
  have HK23 := Lib.hid K23
  clear hmm hb2 hbm b3 z3 K1 K2 K3 K23 hb13 b1 HC1 HC cp0
  generalize w2.heap.size + 1 = g at *
  go_loopw [6] (fun i wr => ∃ k : Nat, k ≤ Pl.nrows r.p ∧ i = .int .i64 (r.p.fr + k) ∧ Hid (Pl.MapAt wr w1.heap.size g r.p (Pl.upto r.p k)) ∧ Hid (Below w1.heap.size w3 wr)) (fun i _ => (Pl.nrows r.p - (intOf i - r.p.fr)).toNat)
  case atStart => exact ⟨0, by omega, by simp, HMA, Below.refl _ _⟩
  case round =>
    obtain ⟨wr1, e1⟩ : ∃ x, x = wr := ⟨_, rfl⟩
    subst e1
    obtain ⟨k, hk, rfl, HM1, HBr⟩ := hrel
    have HKr : Hid (Rw.Blk wr1 w.heap.size 74 (Pl.enc r)) := HK23.out.kept (HBr.out.block _ (by omega))
    have q1 : wr1.cell? ⟨w.heap.size, 1, none⟩ = some (.int .i64 r.p.la) := (HKr.out.cell 1).trans rfl
    have q2 : wr1.cell? ⟨w.heap.size, 2, none⟩ = some (.string r.p.lt) := (HKr.out.cell 2).trans rfl
    have hr4 := HR4.out
    by_cases hlt : k < Pl.nrows r.p
    · have hle : r.p.fr + (k : Int) ≤ r.p.la := by omega
      have HMI : Hid (Pl.MapAt wr1 w1.heap.size g r.p (Pl.ahead r.p k 0)) := show Pl.MapAt _ _ _ _ _ by rw [Pl.ahead_zero]; exact HM1.out
      have HEND : Hid (Pl.ahead r.p k r.p.lt.size = Pl.upto r.p (k + 1)) := Pl.ahead_end r.p k
      have hk60 : k < 60 := by omega
      clear hr4
      go_wp2
      go_loopw [27] (fun i2 wr => ∃ i : Nat, i ≤ r.p.lt.size ∧ i2 = .int .i64 i ∧ Hid (Pl.MapAt wr w1.heap.size g r.p (Pl.ahead r.p k i)) ∧ Hid (Below w1.heap.size w3 wr)) (fun i2 _ => r.p.lt.size - (intOf i2).toNat)
      case atStart => exact ⟨0, by omega, rfl, HMI, HBr⟩
      case round =>
        obtain ⟨wr2, e2⟩ : ∃ x, x = wr := ⟨_, rfl⟩
        subst e2
        obtain ⟨i, hi, rfl, HM2, HBr2⟩ := hrel
        have HKr2 : Hid (Rw.Blk wr2 w.heap.size 74 (Pl.enc r)) := HK23.out.kept (HBr2.out.block _ (by omega))
        have p2 : wr2.cell? ⟨w.heap.size, 2, none⟩ = some (.string r.p.lt) := (HKr2.out.cell 2).trans rfl
        by_cases hi2 : i < r.p.lt.size
        · have b0 := Cd.bt_lo r.p.lt i
          have b9 := Cd.bt_hi r.p.lt i
          by_cases hd : Cd.bt r.p.lt i = 46
          · have hx : (Cd.bt r.p.lt i == 46) = true := by simp [hd]
            have hx2 : (Cd.bt r.p.lt i != 46) = false := by simp [hd]
            have HN : Hid (Pl.MapAt wr2 w1.heap.size g r.p (Pl.ahead r.p k (i + 1))) := show Pl.MapAt _ _ _ _ _ by rw [Pl.ahead_no r.p k i hd]; exact HM2.out
            clear hd
            go_wp2
            go_roundw
            case rel => exact ⟨i + 1, by omega, by go_num, HN, HBr2⟩
            case measure => simp [intOf]; omega
          · have hx : (Cd.bt r.p.lt i == 46) = false := by simp [hd]
            have hx2 : (Cd.bt r.p.lt i != 46) = true := by simp [hd]
            have HADi := Lib.hid (HAD.out (r.p.fr + k) i w1.heap.size g (Pl.ahead r.p k i) wr2 (HB1.out.trans ((HB13.out.trans (HBr2.out.mono (by omega))).mono (by omega))) hi2 (Nat.le_trans h13 HBr2.out.size) HM2.out (Pl.ahead_new HL.out hlt hi2 hd) ⟨by show _ ≤ r.p.fr + (k : Int); omega, by show r.p.fr + (k : Int) ≤ _; omega, b0, b9⟩ (by have := Pl.ahead_len HL.out HO.out hlt (Nat.le_of_lt hi2); omega))
            rw [← Pl.ahead_yes r.p k i hd] at HADi
            clear hd
            go_wp2_with (first
              | (refine wpList_load_mid rfl 74 _ rfl w.heap.size 0 rfl (Pl.enc r) _ HKr2.out.range Pl.uP Pl.rP Pl.iP ?_)
              | (go_at_call 69; refine HADi.out.mono ?_; rintro e w5 ⟨rfl, hm5, hb5⟩; have HM5 := Lib.hid hm5; have HB5 : Hid (Below w1.heap.size w3 w5) := HBr2.out.trans hb5; clear hm5 hb5))
            go_roundw
            case rel => exact ⟨i + 1, by omega, by go_num, HM5, HB5⟩
            case measure => simp [intOf]; omega
        · have hin : i = r.p.lt.size := by omega
          have HM3 : Hid (Pl.MapAt wr2 w1.heap.size g r.p (Pl.upto r.p (k + 1))) := show Pl.MapAt _ _ _ _ _ by rw [← HEND.out, ← hin]; exact HM2.out
          clear hin
          go_wp2
          go_roundw
          case rel => exact ⟨k + 1, by omega, by go_num, HM3, HBr2⟩
          case measure => simp [intOf]; omega
    · have hle : ¬ r.p.fr + (k : Int) ≤ r.p.la := by omega
      have hkn : k = Pl.nrows r.p := by omega
      clear hr4
      subst hkn
      go_wp2
      go_ret2
      exact ⟨g, rfl, HM1.out.low (by omega), HB1.out.trans ((HB13.out.trans (HBr.out.mono (by omega))).mono (by omega))⟩
end Go.Proofs.YtfodabbmjggieaaGreat
namespace Go.Proofs.YtfodabbmjggieaaGreat
open Go.RowKit Go.WideMaps
set_option linter.unusedVariables false

namespace Pl
theorem bs_append (a b : ByteArray) : Cd.bs (a ++ b) = Cd.bs a ++ Cd.bs b := by simp [Cd.bs]
theorem bs_one (s : ByteArray) (k : Nat) (h : k < s.size) : Cd.bs (s.extract k (k + 1)) = [Cd.bt s k] := by
  have hl : k < s.data.toList.length := by simpa using h
  have e : (s.extract k (k + 1)).data.toList = [s.data.toList[k]] := by
    rw [ByteArray.data_extract, Array.toList_extract, List.extract_eq_take_drop, Nat.add_sub_cancel_left, List.drop_eq_getElem_cons hl]
    simp
  unfold Cd.bs
  rw [e, ← Cd.get_bt s k h]
  rfl
def lastO (l : ByteArray) : Int := if l.size = 0 then 0 else Cd.bt l (l.size - 1)
def dotAt (s : ByteArray) (k : Nat) : Bool := decide (k = 0) || decide (Cd.bt s (k - 1) = 46)
/-- What is left to be looked at. -/
def lst (s l : ByteArray) (k : Nat) : Bool := decide (l.size ≤ 10) && lf ((Cd.bs s).drop k) l.size (lastO l) (dotAt s k)
theorem lf_len : ∀ (l : List Int) (n : Nat) (g : Int) (a : Bool), lf l n g a = true → n ≤ 10 → l.length ≤ 2 * (10 - n) ∧ (a = true → l.length + 1 ≤ 2 * (10 - n))
  | [], n, g, a, h, hn => ⟨by simp, fun e => by subst e; simp [lf] at h⟩
  | c :: l, n, g, a, h, hn => by
    unfold lf at h
    by_cases hc : c = 46
    · rw [if_pos hc] at h
      cases a with
      | true => simp at h
      | false =>
        have ih := lf_len l n g true (by simpa using h) hn
        have := ih.2 rfl
        exact ⟨by simp only [List.length_cons]; omega, fun e => by simp at e⟩
    · rw [if_neg hc] at h
      by_cases hq : (Cd.isL c && decide (g < c) && decide (n ≠ 10)) = true
      · rw [if_pos hq] at h
        simp only [Bool.and_eq_true, decide_eq_true_eq] at hq
        have ih := lf_len l (n + 1) c false h (by omega)
        have := ih.1
        exact ⟨by simp only [List.length_cons]; omega, fun e => by simp only [List.length_cons]; omega⟩
      · rw [if_neg hq] at h; cases h
theorem lf_dot : ∀ (l : List Int) (n : Nat) (g : Int) (a : Bool), lf (l ++ [46]) n g a = false
  | [], n, g, a => by cases a <;> simp [lf]
  | c :: l, n, g, a => by
    rw [List.cons_append]
    unfold lf
    rw [lf_dot l n g true, lf_dot l (n + 1) c false]
    simp
theorem ok_long {s : ByteArray} (h : 20 < s.size) : lettersOk s = false := by
  rw [Bool.eq_false_iff]
  intro h1
  have := (lf_len _ _ _ _ h1 (by omega)).1
  rw [Cd.length_bs] at this
  omega
theorem ok_nil {s : ByteArray} (h : s.size = 0) : lettersOk s = false := by
  have : Cd.bs s = [] := by rw [← List.length_eq_zero_iff, Cd.length_bs]; exact h
  unfold lettersOk
  rw [this]
  rfl
theorem ok_first {s : ByteArray} (h : 0 < s.size) (h1 : Cd.bt s 0 = 46) : lettersOk s = false := by
  have := drop_bt s 0 h
  rw [List.drop_zero] at this
  unfold lettersOk
  rw [this, h1]
  rfl
theorem ok_last {s : ByteArray} {n : Nat} (h : s.size = n + 1) (h1 : Cd.bt s n = 46) : lettersOk s = false := by
  have := Cd.take_succ s n (by omega)
  rw [← h, Cd.take_all, h1] at this
  unfold lettersOk
  rw [this]
  exact lf_dot _ _ _ _
theorem lst_zero (s : ByteArray) : lettersOk s = lst s ⟨#[]⟩ 0 := rfl
theorem lst_dots {s l : ByteArray} {k : Nat} (h : k < s.size) (hc : Cd.bt s k = 46) (hd : dotAt s k = true) : lst s l k = false := by
  unfold lst
  rw [drop_bt s k h, hd, hc]
  simp [lf]
theorem lst_dot {s l : ByteArray} {k : Nat} (h : k < s.size) (hc : Cd.bt s k = 46) (hd : dotAt s k = false) : lst s l k = lst s l (k + 1) := by
  have e : dotAt s (k + 1) = true := by simp [dotAt, hc]
  unfold lst
  rw [drop_bt s k h, hd, hc, e]
  simp [lf]
theorem lst_bad {s l : ByteArray} {k : Nat} (h : k < s.size) (hc : Cd.bt s k ≠ 46) (hd : Cd.isL (Cd.bt s k) = false) : lst s l k = false := by
  unfold lst
  rw [drop_bt s k h]
  simp [lf, hc, hd]
theorem lst_low {s l : ByteArray} {k : Nat} (h : k < s.size) (hc : Cd.bt s k ≠ 46) (hd : ¬ lastO l < Cd.bt s k) : lst s l k = false := by
  unfold lst
  rw [drop_bt s k h]
  simp [lf, hc, hd]
theorem size_snoc (l s : ByteArray) (k : Nat) (h : k < s.size) : (l ++ s.extract k (k + 1)).size = l.size + 1 := by
  rw [← Cd.length_bs, bs_append, bs_one s k h, List.length_append, Cd.length_bs]
  rfl
theorem last_snoc (l s : ByteArray) (k : Nat) (h : k < s.size) : lastO (l ++ s.extract k (k + 1)) = Cd.bt s k := by
  unfold lastO
  rw [size_snoc l s k h, if_neg (by omega), Nat.add_sub_cancel]
  unfold Cd.bt
  rw [bs_append, bs_one s k h, List.getD_eq_getElem?_getD, ← Cd.length_bs]
  simp [Cd.bt]
theorem lst_add {s l : ByteArray} {k : Nat} (h : k < s.size) (hc : Cd.bt s k ≠ 46) (hL : Cd.isL (Cd.bt s k) = true) (hd : lastO l < Cd.bt s k) : lst s l k = lst s (l ++ s.extract k (k + 1)) (k + 1) := by
  have e : dotAt s (k + 1) = false := by simp [dotAt, hc]
  unfold lst
  rw [drop_bt s k h, e, last_snoc l s k h, size_snoc l s k h]
  rcases Nat.lt_trichotomy l.size 10 with h1 | h1 | h1
  · have a1 : decide (l.size ≤ 10) = true := by simp; omega
    have a2 : decide (l.size + 1 ≤ 10) = true := by simp; omega
    have a3 : l.size ≠ 10 := by omega
    rw [a1, a2]
    simp [lf, hc, hL, hd, a3]
  · have a2 : decide (l.size + 1 ≤ 10) = false := by simp; omega
    rw [a2]
    simp [lf, hc, hL, hd, h1]
  · have a1 : decide (l.size ≤ 10) = false := by simp; omega
    have a2 : decide (l.size + 1 ≤ 10) = false := by simp; omega
    rw [a1, a2]
    rfl
theorem lst_end {s l : ByteArray} {n : Nat} (h : s.size = n + 1) (h1 : Cd.bt s n ≠ 46) : lst s l (n + 1) = decide (l.size ≤ 10) := by
  have e : dotAt s (n + 1) = false := by simp [dotAt, h1]
  unfold lst
  rw [drop_end s (n + 1) (by omega), e]
  simp [lf]
def onlyL (s : ByteArray) (k : Nat) : List Int := ((Cd.bs s).take k).filter fun c => decide (c ≠ 46)
theorem onlyL_dot {s : ByteArray} {k : Nat} (h : k < s.size) (hc : Cd.bt s k = 46) : onlyL s (k + 1) = onlyL s k := by
  unfold onlyL
  rw [Cd.take_succ s k h, List.filter_append]
  simp [hc]
theorem onlyL_add {s : ByteArray} {k : Nat} (h : k < s.size) (hc : Cd.bt s k ≠ 46) : onlyL s (k + 1) = onlyL s k ++ [Cd.bt s k] := by
  unfold onlyL
  rw [Cd.take_succ s k h, List.filter_append]
  simp [hc]
theorem onlyL_all (s : ByteArray) : onlyL s s.size = (Cd.bs s).filter fun c => decide (c ≠ 46) := by
  unfold onlyL
  rw [Cd.take_all]
def LetR (s : ByteArray) (ok : Bool) (w : World) (e : Ending) (w' : World) : Prop := ∃ l : ByteArray, e = .returned (.tuple #[.string l, .bool ok]) ∧ (ok = true → Cd.bs l = (Cd.bs s).filter fun c => decide (c ≠ 46)) ∧ Below w.heap.size w w'
end Pl
set_option maxHeartbeats 2000000 in
set_option maxRecDepth 20000 in
theorem prletters_any (s : ByteArray) (w : World) (hs : s.size ≤ 9223372036854775807) :
    Calls Tryz.prog 67 #[.string s] w (Pl.LetR s (Pl.lettersOk s) w) := by
  have hgb := Cd.get_bt s
  by_cases h0 : s.size = 0
  · have HN := Lib.hid (Pl.ok_nil h0)
    generalize Pl.lettersOk s = res at *
    go_enter Tryz.func67, Tryz.ntmps67
    go_wp2
    go_ret2
    obtain rfl := HN.out
    exact ⟨_, rfl, fun e => (by cases e), Below.refl _ _⟩
  by_cases h20 : 20 < s.size
  · have HN := Lib.hid (Pl.ok_long h20)
    have hd0 : ((s.size : Int) == 0) = false := by rw [beq_eq_false_iff_ne]; omega
    generalize Pl.lettersOk s = res at *
    go_enter Tryz.func67, Tryz.ntmps67
    go_wp2
    go_ret2
    obtain rfl := HN.out
    exact ⟨_, rfl, fun e => (by cases e), Below.refl _ _⟩
  have h00 : 0 < s.size := by omega
  have hd0 : ((s.size : Int) == 0) = false := by rw [beq_eq_false_iff_ne]; omega
  by_cases hf : Cd.bt s 0 = 46
  · have HN := Lib.hid (Pl.ok_first h00 hf)
    have hdf : (Cd.bt s 0 == 46) = true := by simp [hf]
    generalize Pl.lettersOk s = res at *
    clear hf
    go_enter Tryz.func67, Tryz.ntmps67
    go_wp2
    go_ret2
    obtain rfl := HN.out
    exact ⟨_, rfl, fun e => (by cases e), Below.refl _ _⟩
  have hdf : (Cd.bt s 0 == 46) = false := by simp [hf]
  have HF46 := Lib.hid hf
  clear hf
  obtain ⟨n, hn⟩ : ∃ n, s.size = n + 1 := ⟨s.size - 1, by omega⟩
  have hsn : (s.size : Int) - 1 = (n : Int) := by omega
  have hnl : n < s.size := by omega
  by_cases hl : Cd.bt s n = 46
  · have HN := Lib.hid (Pl.ok_last hn hl)
    have hdl : (Cd.bt s n == 46) = true := by simp [hl]
    generalize Pl.lettersOk s = res at *
    clear hl hn
    go_enter Tryz.func67, Tryz.ntmps67
    go_wp2
    go_ret2
    obtain rfl := HN.out
    exact ⟨_, rfl, fun e => (by cases e), Below.refl _ _⟩
  have hdl : (Cd.bt s n == 46) = false := by simp [hl]
  have HEN : Hid (∀ l, Pl.lst s l s.size = decide (l.size ≤ 10)) := fun l => by rw [hn]; exact Pl.lst_end hn hl
  have HST : Hid (Pl.lettersOk s = Pl.lst s ⟨#[]⟩ 0) := Pl.lst_zero s
  clear hl hn
  generalize Pl.lettersOk s = res at *
  have HLT := Lib.hid (fun c w => rletter_any c w)
  go_enter Tryz.func67, Tryz.ntmps67
  go_wp2
  go_loopw [4, 5] (fun lv i wr => ∃ (k : Nat) (l : ByteArray), k ≤ s.size ∧ i = .int .i64 k ∧ lv = .string l ∧ l.size ≤ k ∧ Hid (res = Pl.lst s l k) ∧ Hid (Cd.bs l = Pl.onlyL s k) ∧ Hid (Below w.heap.size w wr)) (fun _ i _ => s.size - (intOf i).toNat)
  case atStart => exact ⟨0, ⟨#[]⟩, by omega, rfl, rfl, Nat.le_refl _, HST, show _ = _ by rfl, Below.refl _ _⟩
  case round =>
    obtain ⟨k, l, hk, rfl, rfl, hlk, HS, HB, HW⟩ := hrel
    obtain ⟨wa, ea⟩ : ∃ x, x = wr := ⟨_, rfl⟩
    subst ea
    clear HST
    by_cases hlt : k < s.size
    · by_cases hc : Cd.bt s k = 46
      · have hx : (Cd.bt s k == 46) = true := by simp [hc]
        obtain ⟨j, hj⟩ : ∃ j, k = j + 1 := ⟨k - 1, by
          rcases Nat.eq_zero_or_pos k with h | h
          · subst h; exact absurd hc HF46.out
          · omega⟩
        have hkj : (k : Int) - 1 = (j : Int) := by omega
        have hjl : j < s.size := by omega
        by_cases hp : Cd.bt s j = 46
        · have HN : Hid (res = false) := show _ = _ by rw [HS.out]; exact Pl.lst_dots hlt hc (by rw [hj]; simp [Pl.dotAt, hp])
          have hx2 : (Cd.bt s j == 46) = true := by simp [hp]
          clear hp hc hj
          go_wp2
          go_ret2
          obtain rfl := HN.out
          exact ⟨_, rfl, fun e => (by cases e), HW.out⟩
        · have HN : Hid (res = Pl.lst s l (k + 1)) := show _ = _ by rw [HS.out]; exact Pl.lst_dot hlt hc (by rw [hj]; simp [Pl.dotAt, hp])
          have HB2 : Hid (Cd.bs l = Pl.onlyL s (k + 1)) := show _ = _ by rw [Pl.onlyL_dot hlt hc]; exact HB.out
          have hx2 : (Cd.bt s j == 46) = false := by simp [hp]
          clear hp hc hj
          go_wp2
          go_roundw
          case rel => exact ⟨k + 1, l, by omega, by go_num, rfl, by omega, HN, HB2, HW⟩
          case measure => simp [intOf]; omega
      · have hx : (Cd.bt s k == 46) = false := by simp [hc]
        have HLi := Lib.hid (fun w => HLT.out (Cd.bt s k) w)
        cases hL : Cd.isL (Cd.bt s k) with
        | false =>
          rw [hL] at HLi
          have HN : Hid (res = false) := show _ = _ by rw [HS.out]; exact Pl.lst_bad hlt hc hL
          clear hc hL
          go_wp2
          go_quiet ((go_at_call 86; exact Calls.quiet_of_same ((HLi.out _).mono (fun _ _ h => ⟨h.1, h.2.symm⟩))))
          go_wp2
          go_ret2
          obtain rfl := HN.out
          exact ⟨_, rfl, fun e => (by cases e), Pl.below_drewN HW.out _⟩
        | true =>
          rw [hL] at HLi
          have HAD : Hid (Pl.lastO l < Cd.bt s k → res = Pl.lst s (l ++ s.extract k (k + 1)) (k + 1)) := fun hd => by rw [HS.out]; exact Pl.lst_add hlt hc hL hd
          have HLW : Hid (¬ Pl.lastO l < Cd.bt s k → res = false) := fun hd => by rw [HS.out]; exact Pl.lst_low hlt hc hd
          have HB2 : Hid (Cd.bs (l ++ s.extract k (k + 1)) = Pl.onlyL s (k + 1)) := show _ = _ by rw [Pl.onlyL_add hlt hc, Pl.bs_append, Pl.bs_one s k hlt, HB.out]
          have HSZ : Hid ((l ++ s.extract k (k + 1)).size = l.size + 1) := Pl.size_snoc l s k hlt
          have h65 : 65 ≤ Cd.bt s k := by simp [Cd.isL] at hL; exact hL.1
          clear hc hL
          by_cases hl0 : l.size = 0
          · have HN : Hid (res = Pl.lst s (l ++ s.extract k (k + 1)) (k + 1)) := HAD.out (by unfold Pl.lastO; rw [if_pos hl0]; omega)
            have hdz : decide ((0 : Int) < (l.size : Int)) = false := decide_eq_false (by omega)
            clear h65
            go_wp2
            go_quiet ((go_at_call 86; exact Calls.quiet_of_same ((HLi.out _).mono (fun _ _ h => ⟨h.1, h.2.symm⟩))))
            go_wp2
            go_roundw
            case rel => exact ⟨k + 1, _, by omega, by go_num, rfl, by rw [HSZ.out]; omega, HN, HB2, Pl.below_drewN HW.out _⟩
            case measure => simp [intOf]; omega
          · obtain ⟨m, hm⟩ : ∃ m, l.size = m + 1 := ⟨l.size - 1, by omega⟩
            have hlm : (l.size : Int) - 1 = (m : Int) := by omega
            have hml : m < l.size := by omega
            have hla : Pl.lastO l = Cd.bt l m := by unfold Pl.lastO; rw [if_neg hl0, hm]; rfl
            rw [hla] at HAD HLW
            have hgl := Cd.get_bt l
            have hpos : 0 < l.size := by omega
            have hposI : (0 : Int) < (l.size : Int) := by omega
            have hdz : decide ((0 : Int) < (l.size : Int)) = true := decide_eq_true hposI
            have hdz2 : decide (0 < l.size) = true := decide_eq_true hpos
            clear h65 hla hm
            by_cases hd : Cd.bt l m < Cd.bt s k
            · have HN := Lib.hid (HAD.out hd)
              have hdd : decide (Cd.bt s k ≤ Cd.bt l m) = false := by simp; omega
              clear hd
              go_wp2
              go_quiet ((go_at_call 86; exact Calls.quiet_of_same ((HLi.out _).mono (fun _ _ h => ⟨h.1, h.2.symm⟩))))
              go_wp2
              go_roundw
              case rel => exact ⟨k + 1, _, by omega, by go_num, rfl, by rw [HSZ.out]; omega, HN, HB2, Pl.below_drewN HW.out _⟩
              case measure => simp [intOf]; omega
            · have HN := Lib.hid (HLW.out hd)
              have hdd : decide (Cd.bt s k ≤ Cd.bt l m) = true := by simp; omega
              clear hd
              go_wp2
              go_quiet ((go_at_call 86; exact Calls.quiet_of_same ((HLi.out _).mono (fun _ _ h => ⟨h.1, h.2.symm⟩))))
              go_wp2
              go_ret2
              obtain rfl := HN.out
              exact ⟨_, rfl, fun e => (by cases e), Pl.below_drewN HW.out _⟩
    · have hke : k = s.size := by omega
      have HN : Hid (res = decide (l.size ≤ 10)) := show _ = _ by rw [HS.out, hke]; exact HEN.out l
      have HB2 : Hid (Cd.bs l = (Cd.bs s).filter fun c => decide (c ≠ 46)) := show _ = _ by rw [HB.out, hke]; exact Pl.onlyL_all s
      clear hke
      by_cases h10 : l.size ≤ 10
      · have HN2 : Hid (res = true) := show _ = _ by rw [HN.out]; simpa using h10
        have hdd : decide ((l.size : Int) ≤ 10) = true := decide_eq_true (by omega)
        go_wp2
        go_ret2
        obtain rfl := HN2.out
        exact ⟨l, rfl, fun _ => HB2.out, HW.out⟩
      · have HN2 : Hid (res = false) := show _ = _ by rw [HN.out]; simpa using h10
        have hdd : decide ((l.size : Int) ≤ 10) = false := decide_eq_false (by omega)
        go_wp2
        go_ret2
        obtain rfl := HN2.out
        exact ⟨l, rfl, fun e => (by cases e), HW.out⟩
end Go.Proofs.YtfodabbmjggieaaGreat
namespace Go.Proofs.YtfodabbmjggieaaGreat
open Go.RowKit Go.WideMaps
set_option linter.unusedVariables false

namespace Pl
/-- The places of the first k rows. -/
def rws (p : P) (k : Nat) : List S := (List.range k).flatMap fun (j : Nat) => (lets p).map fun c => (p.fr + (j : Int), c)
def sofar (p : P) (l : ByteArray) (k i : Nat) : List S := rws p k ++ ((Cd.bs l).take i).map fun c => (p.fr + (k : Int), c)
theorem rws_succ (p : P) (k : Nat) : rws p (k + 1) = rws p k ++ (lets p).map fun c => (p.fr + (k : Int), c) := by
  unfold rws
  rw [List.range_succ, List.flatMap_append]
  simp
theorem rws_all (p : P) : rws p (nrows p) = all p := (all_eq p).symm
theorem rws_len (p : P) (k : Nat) : (rws p k).length = k * (lets p).length := by
  induction k with
  | zero => simp [rws]
  | succ k ih => rw [rws_succ, List.length_append, ih, List.length_map, Nat.succ_mul]
theorem sofar_zero (p : P) (l : ByteArray) (k : Nat) : sofar p l k 0 = rws p k := by simp [sofar]
theorem sofar_succ (p : P) (l : ByteArray) (k i : Nat) (h : i < l.size) : sofar p l k (i + 1) = sofar p l k i ++ [(p.fr + (k : Int), Cd.bt l i)] := by
  unfold sofar
  rw [Cd.take_succ l i h, List.map_append, List.append_assoc]
  rfl
theorem sofar_end (p : P) (l : ByteArray) (k : Nat) (h : Cd.bs l = lets p) : sofar p l k l.size = rws p (k + 1) := by
  unfold sofar
  rw [Cd.take_all, h, rws_succ]
theorem sofar_len (p : P) (l : ByteArray) (k i : Nat) (hl : (lets p).length ≤ 10) (hk : k < 60) (hi : i ≤ 10) : (sofar p l k i).length ≤ 1000 := by
  unfold sofar
  rw [List.length_append, List.length_map, rws_len]
  have h1 : k * (lets p).length ≤ 60 * 10 := Nat.mul_le_mul (by omega) hl
  have h2 : ((Cd.bs l).take i).length ≤ i := by rw [List.length_take]; exact Nat.min_le_left _ _
  omega
end Pl
set_option maxHeartbeats 4000000 in
set_option maxRecDepth 20000 in
theorem rplaces_any (r : Pl.R) (w : World) (hs : r.p.lt.size ≤ 9223372036854775807) (ho : Pl.rowsOk r.p = true) (hl : Pl.lettersOk r.p.lt = true) :
    Calls Tryz.prog 53 #[Pl.pv r] w (Pl.SeatsR (Pl.all r.p) w) := by
  obtain ⟨r1, r2, r3, r4⟩ := Pl.rows_bd ho
  have hr60 : Pl.nrows r.p ≤ 60 := by omega
  have HLT := Lib.hid (fun W => prletters_any r.p.lt W hs)
  rw [hl] at HLT
  obtain ⟨l1, l2, l3⟩ := Pl.lets_ok hl
  have HL3 := Lib.hid l3
  have HAL := Lib.hid (Pl.rws_all r.p)
  have HR4 := Lib.hid r4
  have e0 : Pl.pv r = .agg (Pl.enc r).toArray := rfl
  rw [e0]
  clear e0 l1 l2 l3 ho hl r4
  go_enter Tryz.func53, Tryz.ntmps53
  go_wp2_with (first
    | (refine Rw.wpList_box rfl 74 _ rfl (Pl.enc r) rfl ?_; intro w1 K1 b1 z1; have HB1 := Lib.hid b1; have HK1 := Lib.hid K1; have q2 : w1.cell? ⟨w.heap.size, 2, none⟩ = some (.string r.p.lt) := (HK1.out.cell 2).trans rfl; clear z1 K1 b1)
    | (go_at_call 67; refine (HLT.out _).mono ?_; rintro e w2 ⟨l, rfl, hbl, hb2⟩; have HBL := Lib.hid (hbl rfl); have HB2 := Lib.hid (HB1.out.trans (hb2.mono HB1.out.size)); have HK2 := Lib.hid (HK1.out.below' hb2); have q0 : w2.cell? ⟨w.heap.size, 0, none⟩ = some (.int .i64 r.p.fr) := (HK2.out.cell 0).trans rfl; clear hb2 hbl))
  clear q0 q2 HLT
  have HLL : Hid (Cd.bs l = Pl.lets r.p) := HBL.out
  have hls : l.size ≤ 10 := by have h1 := HL3.out; rw [← HLL.out, Cd.length_bs] at h1; exact h1
  have hz2 := HK2.out.lt
  have hgl := Cd.get_bt l
  have h02 : w.heap.size ≤ w2.heap.size := by omega
  go_loopw [5, 6] (fun lv i wr => ∃ (k : Nat) (C : Option Addr) (c : Nat), k ≤ Pl.nrows r.p ∧ i = .int .i64 (r.p.fr + k) ∧ lv = .slice C (Pl.rws r.p k).length c ∧ Hid (Pl.OwnS wr w2.heap.size (.slice C (Pl.rws r.p k).length c) (Pl.rws r.p k)) ∧ Hid (Below w2.heap.size w2 wr)) (fun _ i _ => (Pl.nrows r.p - (intOf i - r.p.fr)).toNat)
  case atStart => exact ⟨0, none, 0, by omega, by simp, rfl, Pl.OwnS.nil _ _, Below.refl _ _⟩
  case round =>
    obtain ⟨wa, ea⟩ : ∃ x, x = wr := ⟨_, rfl⟩
    subst ea
    obtain ⟨k, C, c, hk, rfl, rfl, HOa, HBa⟩ := hrel
    have HKa : Hid (Rw.Blk wa w.heap.size 74 (Pl.enc r)) := HK2.out.kept (HBa.out.block _ hz2)
    have q1 : wa.cell? ⟨w.heap.size, 1, none⟩ = some (.int .i64 r.p.la) := (HKa.out.cell 1).trans rfl
    have hr4 := HR4.out
    by_cases hlt : k < Pl.nrows r.p
    · have hle : r.p.fr + (k : Int) ≤ r.p.la := by omega
      have HSL : Hid (∀ i, i ≤ l.size → (Pl.sofar r.p l k i).length ≤ 1000) := fun i hi => Pl.sofar_len _ _ _ _ HL3.out (by omega) (by omega)
      have HSS : Hid (∀ i, i < l.size → Pl.sofar r.p l k (i + 1) = Pl.sofar r.p l k i ++ [(r.p.fr + (k : Int), Cd.bt l i)]) := fun i hi => Pl.sofar_succ _ _ _ _ hi
      have HSE : Hid (Pl.sofar r.p l k l.size = Pl.rws r.p (k + 1)) := Pl.sofar_end _ _ _ HLL.out
      have HS0 : Hid (Pl.rws r.p k = Pl.sofar r.p l k 0) := (Pl.sofar_zero _ _ _).symm
      have hk60 : k < 60 := by omega
      clear hr4
      rw [HS0.out] at HOa ⊢
      go_wp2
      go_loopw [5, 7] (fun lv i wr => ∃ (i2 : Nat) (ls : List Pl.S) (C : Option Addr) (c : Nat), i2 ≤ l.size ∧ i = .int .i64 i2 ∧ lv = .slice C ls.length c ∧ Hid (ls = Pl.sofar r.p l k i2) ∧ Hid (Pl.OwnS wr w2.heap.size (.slice C ls.length c) ls) ∧ Hid (Below w2.heap.size w2 wr)) (fun _ i _ => l.size - (intOf i).toNat)
      case atStart => exact ⟨0, _, C, c, by omega, rfl, rfl, show _ = _ by rfl, HOa, HBa⟩
      case round =>
        obtain ⟨wb, eb⟩ : ∃ x, x = wr := ⟨_, rfl⟩
        subst eb
        obtain ⟨i, ls, D, d, hi, rfl, rfl, HLS, HOb, HBb⟩ := hrel
        have hzb := HBb.out.size
        by_cases hlt2 : i < l.size
        · have HL2 : Hid (ls ++ [(r.p.fr + (k : Int), Cd.bt l i)] = Pl.sofar r.p l k (i + 1)) := show _ = _ by rw [HSS.out i hlt2, HLS.out]
          have hll : ls.length < 100000 := by have := HSL.out i hi; rw [← HLS.out] at this; omega
          have ba : Below wb.heap.size wb (wb.alloc (.cells #[.int .i64 (r.p.fr + (k : Int)), .int .u8 (Cd.bt l i)] 37)) := (Below.refl _ _).alloc (Nat.le_refl _) _
          have HLa := Lib.hid (HOb.out.below ba)
          have hba := Nat.le_trans hzb ba.size
          have HBc := Lib.hid (HBb.out.trans (ba.mono hzb))
          have HSc := Lib.hid (Pl.Sc.new (r.p.fr + (k : Int), Cd.bt l i) wb)
          clear ba
          go_wp2_with (first
            | (refine Rw.wpList_appendS rfl (.tmp 28) (.tmp 34) rfl w2.heap.size (.slice D ls.length d) ls (r.p.fr + (k : Int), Cd.bt l i) HLa.out rfl wb.heap.size rfl HSc.out hll hba (ls.length + 1) rfl ?_; intro A8 c8 w8 h81 h82 h83; have HO8 := h81; have HB8 := Lib.hid (HBc.out.trans h82.out); clear h81 h82 h83))
          go_roundw
          case rel => exact ⟨i + 1, _, A8, c8, by omega, by go_num, by simp, HL2, by simpa using HO8, HB8⟩
          case measure => simp [intOf]; omega
        · have HL2 : Hid (ls = Pl.rws r.p (k + 1)) := show _ = _ by rw [HLS.out, ← HSE.out]; congr 1; omega
          go_wp2
          go_roundw
          case rel => exact ⟨k + 1, D, d, by omega, by go_num, by rw [HL2.out], by rw [← HL2.out]; exact HOb, HBb⟩
          case measure => simp [intOf]; omega
    · have hle : ¬ r.p.fr + (k : Int) ≤ r.p.la := by omega
      have hkn : k = Pl.nrows r.p := by omega
      clear hr4
      subst hkn
      rw [HAL.out] at HOa ⊢
      go_wp2
      go_ret
      exact ⟨C, c, rfl, HOa.out.low h02, HB2.out.trans (HBa.out.mono h02)⟩
end Go.Proofs.YtfodabbmjggieaaGreat
namespace Go.Proofs.YtfodabbmjggieaaGreat
open Go.RowKit Go.WideMaps
set_option linter.unusedVariables false

namespace Pl
def ix (l : List S) (x : S) : Int := if x ∈ l then (l.idxOf x : Nat) else -1
def AtR (l : List S) (x : S) (w : World) (e : Ending) (w' : World) : Prop := e = .returned (.int .i64 (ix l x)) ∧ Below w.heap.size w w'
theorem ix_no {l : List S} {x1 x2 : Int} (h : ∀ j, j < l.length → ¬ (gR l j = x1 ∧ gC l j = x2)) : ix l (x1, x2) = -1 := by
  unfold ix
  rw [if_neg]
  intro hm
  obtain ⟨j, hj, e⟩ := List.getElem_of_mem hm
  rw [gS l j hj] at e
  injection e with e1 e2
  exact h j hj ⟨e1, e2⟩
theorem ix_yes {l : List S} {x1 x2 : Int} {k : Nat} (hk : k < l.length) (h : ∀ j, j < k → j < l.length → ¬ (gR l j = x1 ∧ gC l j = x2)) (e1 : gR l k = x1) (e2 : gC l k = x2) : ix l (x1, x2) = k := by
  have e : l[k] = (x1, x2) := by rw [gS l k hk, e1, e2]
  unfold ix
  rw [if_pos (by rw [← e]; exact List.getElem_mem hk)]
  have : l.idxOf (x1, x2) = k := by
    show l.findIdx (· == (x1, x2)) = k
    rw [List.findIdx_eq hk]
    refine ⟨by rw [e]; simp, fun j hj => ?_⟩
    rw [beq_eq_false_iff_ne, gS l j (by omega)]
    intro e'
    injection e' with a b
    exact h j hj (by omega) ⟨a, b⟩
  rw [this]
theorem ix_neg {l : List S} {x : S} : decide (ix l x < 0) = !l.contains x := by
  unfold ix
  by_cases h : x ∈ l
  · rw [if_pos h]; simp [h]
  · rw [if_neg h]; simp [h]
end Pl
set_option maxHeartbeats 1000000 in
theorem at_any (A : Option Addr) (l : List Pl.S) (cap B : Nat) (x : Pl.S) (w : World) (h : Pl.Sts w B A l) (hB : B ≤ w.heap.size) (hl : l.length ≤ 9223372036854775807) :
    Calls Tryz.prog 52 #[.slice A l.length cap, Pl.sv x] w (Pl.AtR l x w) := by
  have HI := Lib.hid h
  obtain ⟨x1, x2⟩ := x
  have HY : Hid (∀ k, k < l.length → (∀ j, j < k → j < l.length → ¬ (Pl.gR l j = x1 ∧ Pl.gC l j = x2)) → Pl.gR l k = x1 → Pl.gC l k = x2 → Pl.ix l (x1, x2) = k) := fun k hk hf e1 e2 => Pl.ix_yes hk hf e1 e2
  have HNo : Hid (∀ k, l.length ≤ k → (∀ j, j < k → j < l.length → ¬ (Pl.gR l j = x1 ∧ Pl.gC l j = x2)) → Pl.ix l (x1, x2) = -1) := fun k hk hf => Pl.ix_no (fun j hj => hf j (by omega) hj)
  unfold Pl.AtR
  generalize Pl.ix l (x1, x2) = res at *
  clear h
  unfold Pl.sv
  obtain ⟨w1, ew1⟩ : ∃ w1, w1 = w.alloc (.cells #[.int .i64 x1, .int .u8 x2] 37) := ⟨_, rfl⟩
  have hb0 : Below w.heap.size w w1 := by rw [ew1]; exact (Below.refl w.heap.size w).alloc (Nat.le_refl _) _
  have hz1 : w.heap.size < w1.heap.size := by rw [ew1]; simp
  have HSN : Hid (Pl.Sc (x1, x2) w.heap.size 0 w1) := by rw [ew1]; exact Pl.Sc.new (x1, x2) w
  go_enter Tryz.func52, Tryz.ntmps52
  go_wp2
  rw [← ew1]
  clear ew1
  go_loopw [5] (fun i wr => ∃ k n : Nat, k ≤ l.length ∧ i = .int .i64 k ∧ Hid (∀ j, j < k → j < l.length → ¬ (Pl.gR l j = x1 ∧ Pl.gC l j = x2)) ∧ wr = w1.drewN n) (fun i _ => l.length - (intOf i).toNat)
  case atStart => exact ⟨0, 0, by omega, rfl, fun j hj => absurd hj (by omega), rfl⟩
  case round =>
    obtain ⟨k, n, hk, rfl, HK, rfl⟩ := hrel
    by_cases hlt : k < l.length
    · obtain ⟨b, off, hA, hb, hc⟩ := HI.out (by omega)
      subst hA
      have c0 : ∀ q, (w1.drewN q).cell? ⟨b, off + k * 2, none⟩ = some (.int .i64 (Pl.gR l k)) := fun q => (hb0.cell (p := ⟨b, _, none⟩) (by show b < _; omega)).trans (hc k hlt).1
      have c1 : ∀ q, (w1.drewN q).cell? ⟨b, off + k * 2 + 1, none⟩ = some (.int .u8 (Pl.gC l k)) := fun q => (hb0.cell (p := ⟨b, _, none⟩) (by show b < _; omega)).trans (hc k hlt).2
      have d0 : ∀ q, (w1.drewN q).cell? ⟨w.heap.size, 0, none⟩ = some (.int .i64 x1) := fun q => HSN.out.1
      have d1 : ∀ q, (w1.drewN q).cell? ⟨w.heap.size, 1, none⟩ = some (.int .u8 x2) := fun q => HSN.out.2
      clear hc
      by_cases he : Pl.gR l k = x1 ∧ Pl.gC l k = x2
      · have HN := Lib.hid (HY.out k hlt HK.out he.1 he.2)
        rw [he.1] at c0
        rw [he.2] at c1
        clear he
        go_wp2
        go_quiet (fail)
        go_wp2
        go_ret
        exact ⟨Pl.ret_int HN.out.symm, Pl.below_drewN (Pl.below_drewN hb0 _) _⟩
      · have HN : Hid (∀ j, j < k + 1 → j < l.length → ¬ (Pl.gR l j = x1 ∧ Pl.gC l j = x2)) := fun j hj hl => by
          rcases Nat.lt_or_ge j k with hj' | hj'
          · exact HK.out j hj' hl
          · rw [show j = k by omega]; exact he
        by_cases h1 : Pl.gR l k = x1
        · rw [h1] at c0
          have h2 : ¬ Pl.gC l k = x2 := fun e => he ⟨h1, e⟩
          have hd : (Pl.gC l k == x2) = false := by simp; exact h2
          clear he h1
          go_wp2
          go_quiet (fail)
          go_wp2
          go_roundw
          case rel => exact ⟨k + 1, _, by omega, by go_num, HN, rfl⟩
          case measure => simp [intOf]; omega
        · have hd : (Pl.gR l k == x1) = false := by simp; exact h1
          clear he
          go_wp2
          go_quiet (fail)
          go_wp2
          go_roundw
          case rel => exact ⟨k + 1, _, by omega, by go_num, HN, rfl⟩
          case measure => simp [intOf]; omega
    · have HN := Lib.hid (HNo.out k (by omega) HK.out)
      go_wp2
      go_ret
      exact ⟨Pl.ret_int HN.out.symm, Pl.below_drewN hb0 _⟩
end Go.Proofs.YtfodabbmjggieaaGreat
namespace Go.Proofs.YtfodabbmjggieaaGreat
open Go.RowKit Go.WideMaps
set_option linter.unusedVariables false

namespace Pl
theorem place_all {p : P} (hl : lettersOk p.lt = true) (s : S) : place p s = decide (s ∈ all p) := by
  rw [Bool.eq_iff_iff, decide_eq_true_iff, mem_all]
  unfold place
  rw [Bool.and_eq_true, Bool.and_eq_true]
  unfold hasB lets
  rw [List.contains_iff_mem, List.mem_filter]
  constructor
  · rintro ⟨⟨h1, h2⟩, h3⟩
    refine ⟨h1, h3, ?_⟩
    simp [Cd.isL] at h2
    rw [decide_eq_true_iff]
    omega
  · rintro ⟨h1, h2, h3⟩
    exact ⟨⟨h1, (lets_ok hl).2.1 _ (List.mem_filter.2 ⟨h2, h3⟩)⟩, h2⟩
theorem ix_mem {p : P} {s : S} : s ∈ all p ↔ -1 < ix (all p) s := by
  unfold ix
  by_cases h : s ∈ all p
  · rw [if_pos h]; exact ⟨fun _ => by omega, fun _ => h⟩
  · rw [if_neg h]; exact ⟨fun h' => absurd h' h, fun h' => by omega⟩
theorem ix_at {p : P} (hl : lettersOk p.lt = true) {a : Nat} (h : a < (all p).length) : ix (all p) (all p)[a] = a := by
  unfold ix
  rw [if_pos (List.getElem_mem h), idxOf_at h (all_nodup hl)]
theorem lss_ix {p : P} (hl : lettersOk p.lt = true) {s t : S} (hs : s ∈ all p) (ht : t ∈ all p) : lss s t = decide (ix (all p) s < ix (all p) t) := by
  obtain ⟨a, ha, rfl⟩ := List.getElem_of_mem hs
  obtain ⟨b, hb, rfl⟩ := List.getElem_of_mem ht
  rw [ix_at hl ha, ix_at hl hb]
  have hp := List.pairwise_iff_getElem.1 (all_rise hl)
  rcases Nat.lt_trichotomy a b with h | h | h
  · rw [hp a b ha hb h, decide_eq_true (by omega)]
  · subst h
    rw [decide_eq_false (by omega)]
    rw [Bool.eq_false_iff]
    exact fun h => lss_ne h rfl
  · rw [decide_eq_false (by omega), Bool.eq_false_iff]
    intro h1
    have h2 := lss_lt.1 (hp b a hb ha h)
    have h3 := lss_lt.1 h1
    omega
def lastN (p : P) (k : Nat) : Int := if k = 0 then -1 else ix (all p) (gR p.bl (k - 1), gC p.bl (k - 1))
theorem bl_step {p : P} (hl : lettersOk p.lt = true) {k : Nat} (hk : ∀ j, j < k → blOk p j = true) : blOk p k = decide (lastN p k < ix (all p) (gR p.bl k, gC p.bl k)) := by
  unfold blOk lastN
  rw [place_all hl]
  by_cases h0 : k = 0
  · rw [if_pos h0, decide_eq_true h0, Bool.true_or, Bool.and_true, Bool.eq_iff_iff, decide_eq_true_iff, decide_eq_true_iff]
    exact ix_mem
  · rw [if_neg h0, decide_eq_false h0, Bool.false_or]
    have h1 := hk (k - 1) (by omega)
    unfold blOk at h1
    rw [Bool.and_eq_true, place_all hl, decide_eq_true_iff] at h1
    by_cases h2 : (gR p.bl k, gC p.bl k) ∈ all p
    · rw [lss_ix hl h1.1 h2, decide_eq_true h2, Bool.true_and]
    · have h3 := mt ix_mem.2 h2
      have h4 := ix_mem.1 h1.1
      rw [decide_eq_false h2, Bool.false_and, decide_eq_false (by omega)]
theorem right_rows {p : P} (h : rowsOk p = false) : right p = false := by unfold right; rw [h]; rfl
theorem right_lets {p : P} (h : lettersOk p.lt = false) : right p = false := by unfold right; rw [h, Bool.and_false]; rfl
theorem right_exits {p : P} (h : exitsOk p = false) : right p = false := by unfold right; rw [h, Bool.and_false]; rfl
theorem right_bl {p : P} (h : blockedOk p = false) : right p = false := by unfold right; rw [h, Bool.and_false]
theorem right_yes {p : P} (h1 : rowsOk p = true) (h2 : lettersOk p.lt = true) (h3 : exitsOk p = true) (h4 : blockedOk p = true) : right p = true := by unfold right; rw [h1, h2, h3, h4]; rfl
end Pl
set_option maxHeartbeats 4000000 in
set_option maxRecDepth 20000 in
theorem prright_any (r : Pl.R) (B : Nat) (w : World) (hw : Pl.Wf r) (he : Pl.Ints w B r.eA r.p.ex) (hbl : Pl.Sts w B r.bA r.p.bl) (hB : B ≤ w.heap.size) :
    Calls Tryz.prog 42 #[Pl.pv r] w fun e w' => e = .returned (.bool (Pl.right r.p)) ∧ Below w.heap.size w w' := by
  have hs := hw.s
  have hel := hw.e
  have hbl2 := hw.b
  have HLT := Lib.hid (fun W => prletters_any r.p.lt W hs)
  have e0 : Pl.pv r = .agg (Pl.enc r).toArray := rfl
  by_cases hl : Pl.lettersOk r.p.lt = true
  case neg =>
    have hl' : Pl.lettersOk r.p.lt = false := by simpa using hl
    rw [hl'] at HLT
    rw [e0]
    clear e0 he hbl
    have HN : Hid (Pl.right r.p = false) := show _ = _ by exact Pl.right_lets hl'
    generalize Pl.right r.p = res at *
    go_enter Tryz.func42, Tryz.ntmps42
    go_wp2_with (first
      | (refine Rw.wpList_box rfl 74 _ rfl (Pl.enc r) rfl ?_; intro w1 K1 b1 z1; have HB1 := Lib.hid b1; have HK1 := Lib.hid K1; have q2 : w1.cell? ⟨w.heap.size, 2, none⟩ = some (.string r.p.lt) := (HK1.out.cell 2).trans rfl; clear z1 K1 b1)
      | (go_at_call 67; refine (HLT.out _).mono ?_; rintro e w2 ⟨l, rfl, hbl2, hb2⟩; have HB2 := Lib.hid (HB1.out.trans (hb2.mono HB1.out.size)); have HK2 := Lib.hid (HK1.out.below' hb2); clear hb2 hbl2; have q0 : w2.cell? ⟨w.heap.size, 0, none⟩ = some (.int .i64 r.p.fr) := (HK2.out.cell 0).trans rfl; have q1 : w2.cell? ⟨w.heap.size, 1, none⟩ = some (.int .i64 r.p.la) := (HK2.out.cell 1).trans rfl; have q4 : w2.cell? ⟨w.heap.size, 4, none⟩ = some (.slice r.bA r.p.bl.length r.bc) := (HK2.out.cell 4).trans rfl))
    go_ret
    exact ⟨Pl.ret_bool HN.out.symm, HB2.out⟩
  rw [hl] at HLT
  by_cases h1 : r.p.fr < 1
  case pos =>
    rw [e0]
    clear e0 he hbl
    have HN : Hid (Pl.right r.p = false) := show _ = _ by exact Pl.right_rows (by unfold Pl.rowsOk; simp; omega)
    generalize Pl.right r.p = res at *
    go_enter Tryz.func42, Tryz.ntmps42
    go_wp2_with (first
      | (refine Rw.wpList_box rfl 74 _ rfl (Pl.enc r) rfl ?_; intro w1 K1 b1 z1; have HB1 := Lib.hid b1; have HK1 := Lib.hid K1; have q2 : w1.cell? ⟨w.heap.size, 2, none⟩ = some (.string r.p.lt) := (HK1.out.cell 2).trans rfl; clear z1 K1 b1)
      | (go_at_call 67; refine (HLT.out _).mono ?_; rintro e w2 ⟨l, rfl, hbl2, hb2⟩; have HB2 := Lib.hid (HB1.out.trans (hb2.mono HB1.out.size)); have HK2 := Lib.hid (HK1.out.below' hb2); clear hb2 hbl2; have q0 : w2.cell? ⟨w.heap.size, 0, none⟩ = some (.int .i64 r.p.fr) := (HK2.out.cell 0).trans rfl; have q1 : w2.cell? ⟨w.heap.size, 1, none⟩ = some (.int .i64 r.p.la) := (HK2.out.cell 1).trans rfl; have q4 : w2.cell? ⟨w.heap.size, 4, none⟩ = some (.slice r.bA r.p.bl.length r.bc) := (HK2.out.cell 4).trans rfl))
    go_ret
    exact ⟨Pl.ret_bool HN.out.symm, HB2.out⟩
  by_cases h2 : r.p.la < r.p.fr
  case pos =>
    rw [e0]
    clear e0 he hbl
    have HN : Hid (Pl.right r.p = false) := show _ = _ by exact Pl.right_rows (by unfold Pl.rowsOk; simp; omega)
    generalize Pl.right r.p = res at *
    go_enter Tryz.func42, Tryz.ntmps42
    go_wp2_with (first
      | (refine Rw.wpList_box rfl 74 _ rfl (Pl.enc r) rfl ?_; intro w1 K1 b1 z1; have HB1 := Lib.hid b1; have HK1 := Lib.hid K1; have q2 : w1.cell? ⟨w.heap.size, 2, none⟩ = some (.string r.p.lt) := (HK1.out.cell 2).trans rfl; clear z1 K1 b1)
      | (go_at_call 67; refine (HLT.out _).mono ?_; rintro e w2 ⟨l, rfl, hbl2, hb2⟩; have HB2 := Lib.hid (HB1.out.trans (hb2.mono HB1.out.size)); have HK2 := Lib.hid (HK1.out.below' hb2); clear hb2 hbl2; have q0 : w2.cell? ⟨w.heap.size, 0, none⟩ = some (.int .i64 r.p.fr) := (HK2.out.cell 0).trans rfl; have q1 : w2.cell? ⟨w.heap.size, 1, none⟩ = some (.int .i64 r.p.la) := (HK2.out.cell 1).trans rfl; have q4 : w2.cell? ⟨w.heap.size, 4, none⟩ = some (.slice r.bA r.p.bl.length r.bc) := (HK2.out.cell 4).trans rfl))
    go_ret
    exact ⟨Pl.ret_bool HN.out.symm, HB2.out⟩
  by_cases h3 : 60 < r.p.la
  case pos =>
    rw [e0]
    clear e0 he hbl
    have HN : Hid (Pl.right r.p = false) := show _ = _ by exact Pl.right_rows (by unfold Pl.rowsOk; simp; omega)
    generalize Pl.right r.p = res at *
    go_enter Tryz.func42, Tryz.ntmps42
    go_wp2_with (first
      | (refine Rw.wpList_box rfl 74 _ rfl (Pl.enc r) rfl ?_; intro w1 K1 b1 z1; have HB1 := Lib.hid b1; have HK1 := Lib.hid K1; have q2 : w1.cell? ⟨w.heap.size, 2, none⟩ = some (.string r.p.lt) := (HK1.out.cell 2).trans rfl; clear z1 K1 b1)
      | (go_at_call 67; refine (HLT.out _).mono ?_; rintro e w2 ⟨l, rfl, hbl2, hb2⟩; have HB2 := Lib.hid (HB1.out.trans (hb2.mono HB1.out.size)); have HK2 := Lib.hid (HK1.out.below' hb2); clear hb2 hbl2; have q0 : w2.cell? ⟨w.heap.size, 0, none⟩ = some (.int .i64 r.p.fr) := (HK2.out.cell 0).trans rfl; have q1 : w2.cell? ⟨w.heap.size, 1, none⟩ = some (.int .i64 r.p.la) := (HK2.out.cell 1).trans rfl; have q4 : w2.cell? ⟨w.heap.size, 4, none⟩ = some (.slice r.bA r.p.bl.length r.bc) := (HK2.out.cell 4).trans rfl))
    go_ret
    exact ⟨Pl.ret_bool HN.out.symm, HB2.out⟩
  by_cases h4 : 40 < r.p.bl.length
  case pos =>
    have h4i : (40 : Int) < (r.p.bl.length : Int) := by omega
    rw [e0]
    clear e0 he hbl
    have HN : Hid (Pl.right r.p = false) := show _ = _ by exact Pl.right_bl (by unfold Pl.blockedOk; rw [decide_eq_false (by omega)]; rfl)
    generalize Pl.right r.p = res at *
    go_enter Tryz.func42, Tryz.ntmps42
    go_wp2_with (first
      | (refine Rw.wpList_box rfl 74 _ rfl (Pl.enc r) rfl ?_; intro w1 K1 b1 z1; have HB1 := Lib.hid b1; have HK1 := Lib.hid K1; have q2 : w1.cell? ⟨w.heap.size, 2, none⟩ = some (.string r.p.lt) := (HK1.out.cell 2).trans rfl; clear z1 K1 b1)
      | (go_at_call 67; refine (HLT.out _).mono ?_; rintro e w2 ⟨l, rfl, hbl2, hb2⟩; have HB2 := Lib.hid (HB1.out.trans (hb2.mono HB1.out.size)); have HK2 := Lib.hid (HK1.out.below' hb2); clear hb2 hbl2; have q0 : w2.cell? ⟨w.heap.size, 0, none⟩ = some (.int .i64 r.p.fr) := (HK2.out.cell 0).trans rfl; have q1 : w2.cell? ⟨w.heap.size, 1, none⟩ = some (.int .i64 r.p.la) := (HK2.out.cell 1).trans rfl; have q4 : w2.cell? ⟨w.heap.size, 4, none⟩ = some (.slice r.bA r.p.bl.length r.bc) := (HK2.out.cell 4).trans rfl))
    go_ret
    exact ⟨Pl.ret_bool HN.out.symm, HB2.out⟩
  have ho : Pl.rowsOk r.p = true := by unfold Pl.rowsOk; simp; omega
  have h4i : ¬ (40 : Int) < (r.p.bl.length : Int) := by omega
  have HPL := Lib.hid (fun W => rplaces_any r W hs ho hl)
  have HLN : Hid ((Pl.all r.p).length ≤ 600) := Pl.all_len hl ho
  have HEY : Hid ((∀ j, j < r.p.ex.length → Pl.exOk r.p j = true) → Pl.exitsOk r.p = true) := fun hk => Pl.range_yes hk
  have HEN : Hid (∀ k, k < r.p.ex.length → Pl.exOk r.p k = false → Pl.right r.p = false) := fun k h h' => Pl.right_exits (Pl.range_no h h')
  have HBY : Hid (Pl.exitsOk r.p = true → (∀ j, j < r.p.bl.length → Pl.blOk r.p j = true) → Pl.right r.p = true) := fun h hk => Pl.right_yes ho hl h (by unfold Pl.blockedOk; rw [Pl.range_yes hk, decide_eq_true (by omega)]; rfl)
  have HBN : Hid (∀ k, k < r.p.bl.length → Pl.blOk r.p k = false → Pl.right r.p = false) := fun k h h' => Pl.right_bl (by unfold Pl.blockedOk; rw [Pl.range_no h h', Bool.and_false])
  have HBS : Hid (∀ k, (∀ j, j < k → Pl.blOk r.p j = true) → Pl.blOk r.p k = decide (Pl.lastN r.p k < Pl.ix (Pl.all r.p) (Pl.gR r.p.bl k, Pl.gC r.p.bl k))) := fun k hk => Pl.bl_step hl hk
  have HBL0 : Hid (Pl.lastN r.p 0 = -1) := show _ = _ by rfl
  have HBLS : Hid (∀ k, Pl.lastN r.p (k + 1) = Pl.ix (Pl.all r.p) (Pl.gR r.p.bl k, Pl.gC r.p.bl k)) := fun k => rfl
  have HXO : Hid (∀ k, Pl.exOk r.p k = (Pl.inRow r.p (Pl.gI r.p.ex k) && (decide (k = 0) || decide (Pl.gI r.p.ex (k - 1) < Pl.gI r.p.ex k)))) := fun _ => rfl
  have HIR : Hid (∀ n, Pl.inRow r.p n = (decide (r.p.fr ≤ n) && decide (n ≤ r.p.la))) := fun _ => rfl
  have HE := Lib.hid he
  have HS := Lib.hid hbl
  rw [e0] at HPL ⊢
  clear e0 hl ho he hbl hw
  generalize Pl.right r.p = res at *
  generalize Pl.lastN r.p = lastF at *
  generalize Pl.exitsOk r.p = exq at *
  generalize Pl.exOk r.p = exk at *
  generalize Pl.blOk r.p = blk at *
  go_enter Tryz.func42, Tryz.ntmps42
  go_wp2_with (first
    | (refine Rw.wpList_box rfl 74 _ rfl (Pl.enc r) rfl ?_; intro w1 K1 b1 z1; have HB1 := Lib.hid b1; have HK1 := Lib.hid K1; have q2 : w1.cell? ⟨w.heap.size, 2, none⟩ = some (.string r.p.lt) := (HK1.out.cell 2).trans rfl; clear z1 K1 b1)
    | (go_at_call 67; refine (HLT.out _).mono ?_; rintro e w2 ⟨l, rfl, hbl3, hb2⟩; have HB2 := Lib.hid (HB1.out.trans (hb2.mono HB1.out.size)); have HK2 := Lib.hid (HK1.out.below' hb2); clear hb2 hbl3; have q0 : w2.cell? ⟨w.heap.size, 0, none⟩ = some (.int .i64 r.p.fr) := (HK2.out.cell 0).trans rfl; have q1 : w2.cell? ⟨w.heap.size, 1, none⟩ = some (.int .i64 r.p.la) := (HK2.out.cell 1).trans rfl; have q4 : w2.cell? ⟨w.heap.size, 4, none⟩ = some (.slice r.bA r.p.bl.length r.bc) := (HK2.out.cell 4).trans rfl))
  clear q0 q1 q2 q4 HLT h4i
  have hz2 := HK2.out.lt
  have h02 : w.heap.size ≤ w2.heap.size := by omega
  go_loopw [5] (fun i wr => ∃ k : Nat, k ≤ r.p.ex.length ∧ i = .int .i64 k ∧ Hid (∀ j, j < k → exk j = true) ∧ Hid (Below w2.heap.size w2 wr)) (fun i _ => r.p.ex.length - (intOf i).toNat)
  case atStart => exact ⟨0, by omega, rfl, fun j hj => absurd hj (by omega), Below.refl _ _⟩
  case round =>
    obtain ⟨wa, ea⟩ : ∃ x, x = wr := ⟨_, rfl⟩
    subst ea
    obtain ⟨k, hk, rfl, HK, HBa⟩ := hrel
    have HKa : Hid (Rw.Blk wa w.heap.size 74 (Pl.enc r)) := HK2.out.kept (HBa.out.block _ hz2)
    have HBw : Hid (Below w.heap.size w wa) := HB2.out.trans (HBa.out.mono h02)
    by_cases hlt : k < r.p.ex.length
    · obtain ⟨b, off, eA, hb, hc⟩ := HE.out (by omega)
      have c0 : ∀ q, (wa.drewN q).cell? ⟨b, off + k, none⟩ = some (.int .i64 (Pl.gI r.p.ex k)) := fun q => (HBw.out.cell (p := ⟨b, off + k, none⟩) (by show b < _; omega)).trans (hc k hlt)
      have q0 : ∀ q, (wa.drewN q).cell? ⟨w.heap.size, 0, none⟩ = some (.int .i64 r.p.fr) := fun q => (HKa.out.cell 0).trans rfl
      have q1 : ∀ q, (wa.drewN q).cell? ⟨w.heap.size, 1, none⟩ = some (.int .i64 r.p.la) := fun q => (HKa.out.cell 1).trans rfl
      have q3 : ∀ q, (wa.drewN q).cell? ⟨w.heap.size, 3, none⟩ = some (.slice (some ⟨b, off, none⟩) r.p.ex.length r.ec) := fun q => by rw [← eA]; exact (HKa.out.cell 3).trans rfl
      have q30 : wa.cell? ⟨w.heap.size, 3, none⟩ = some (.slice (some ⟨b, off, none⟩) r.p.ex.length r.ec) := q3 0
      have HEk := Lib.hid (HEN.out k hlt)
      have hon := HXO.out k
      rw [HIR.out] at hon
      by_cases x1 : Pl.gI r.p.ex k < r.p.fr
      · have HN := Lib.hid (HEk.out (by rw [hon, decide_eq_false (p := r.p.fr ≤ _) (by omega)]; rfl))
        have hd : decide (Pl.gI r.p.ex k < r.p.fr) = true := decide_eq_true x1
        clear hon hc
        generalize Pl.gI r.p.ex k = x at *
        go_wp2
        go_quiet (fail)
        go_wp2
        go_ret
        exact ⟨Pl.ret_bool HN.out.symm, Pl.below_drewN HBw.out _⟩
      · by_cases x2 : r.p.la < Pl.gI r.p.ex k
        · have HN := Lib.hid (HEk.out (by rw [hon, decide_eq_false (p := _ ≤ r.p.la) (by omega), Bool.and_false]; rfl))
          have hd : decide (Pl.gI r.p.ex k < r.p.fr) = false := decide_eq_false x1
          have hd2 : decide (r.p.la < Pl.gI r.p.ex k) = true := decide_eq_true x2
          clear hon hc
          generalize Pl.gI r.p.ex k = x at *
          go_wp2
          go_quiet (fail)
          go_wp2
          go_ret
          exact ⟨Pl.ret_bool HN.out.symm, Pl.below_drewN HBw.out _⟩
        · have hd : decide (Pl.gI r.p.ex k < r.p.fr) = false := decide_eq_false x1
          have hd2 : decide (r.p.la < Pl.gI r.p.ex k) = false := decide_eq_false x2
          rw [decide_eq_true (p := r.p.fr ≤ _) (by omega), decide_eq_true (p := _ ≤ r.p.la) (by omega)] at hon
          by_cases h0 : k = 0
          · have HN : Hid (∀ j, j < k + 1 → exk j = true) := fun j hj => by
              rw [show j = k by omega, hon, decide_eq_true h0]; rfl
            have hd3 : decide ((0 : Int) < (k : Int)) = false := decide_eq_false (by omega)
            have hd4 : decide (0 < k) = false := decide_eq_false (by omega)
            clear hon hc h0
            generalize Pl.gI r.p.ex k = x at *
            go_wp2
            go_quiet (fail)
            go_wp2
            go_roundw
            case rel => exact ⟨k + 1, by omega, by go_num, HN, Pl.below_drewN HBa.out _⟩
            case measure => simp [intOf]; omega
          · rw [decide_eq_false h0] at hon
            obtain ⟨m, hm⟩ : ∃ m, k - 1 = m := ⟨_, rfl⟩
            rw [hm] at hon
            have hm2 : m < r.p.ex.length := by omega
            have cm : ∀ q, (wa.drewN q).cell? ⟨b, off + m, none⟩ = some (.int .i64 (Pl.gI r.p.ex m)) := fun q => (HBw.out.cell (p := ⟨b, off + m, none⟩) (by show b < _; omega)).trans (hc m hm2)
            have hw1 : (k : Int) - 1 = (m : Int) := by omega
            have hw2 : IntKind.i64.wrap (m : Int) = (m : Int) := IntWalk.i64_in _ (by omega)
            have hd3 : decide ((0 : Int) < (k : Int)) = true := decide_eq_true (by omega)
            have hd4 : decide (0 < k) = true := decide_eq_true (by omega)
            have hkp : 0 < k := by omega
            by_cases h5 : Pl.gI r.p.ex m < Pl.gI r.p.ex k
            · have HN : Hid (∀ j, j < k + 1 → exk j = true) := fun j hj => by
                rcases Nat.lt_or_ge j k with hj' | hj'
                · exact HK.out j hj'
                · rw [show j = k by omega, hon, decide_eq_true h5]; rfl
              have hd5 : decide (Pl.gI r.p.ex k ≤ Pl.gI r.p.ex m) = false := decide_eq_false (by omega)
              clear hon hc
              generalize Pl.gI r.p.ex k = x at *
              generalize Pl.gI r.p.ex m = y at *
              go_wp2
              go_quiet (fail)
              go_wp2
              go_roundw
              case rel => exact ⟨k + 1, by omega, by go_num, HN, Pl.below_drewN HBa.out _⟩
              case measure => simp [intOf]; omega
            · have HN := Lib.hid (HEk.out (by rw [hon, decide_eq_false h5]; rfl))
              have hd5 : decide (Pl.gI r.p.ex k ≤ Pl.gI r.p.ex m) = true := decide_eq_true (by omega)
              clear hon hc
              generalize Pl.gI r.p.ex k = x at *
              generalize Pl.gI r.p.ex m = y at *
              go_wp2
              go_quiet (fail)
              go_wp2
              go_ret
              exact ⟨Pl.ret_bool HN.out.symm, Pl.below_drewN HBw.out _⟩
    · have HX := Lib.hid (HEY.out (fun j hj => HK.out j (by omega)))
      have q3 : wa.cell? ⟨w.heap.size, 3, none⟩ = some (.slice r.eA r.p.ex.length r.ec) := (HKa.out.cell 3).trans rfl
      go_wp2_with (first
        | (refine wpList_load_mid rfl 74 _ rfl w.heap.size 0 rfl (Pl.enc r) _ HKa.out.range Pl.uP Pl.rP Pl.iP ?_)
        | (go_at_call 53; refine (HPL.out wa).mono ?_; rintro e w5 ⟨A5, c5, rfl, hO5, hb5⟩; obtain ⟨A6, c6, e6, _, hS5⟩ := hO5.sts; have HS5 := Lib.hid hS5; have HB5 := Lib.hid (HBw.out.trans (hb5.mono HBw.out.size)); have HK5 := Lib.hid (HKa.out.below' hb5); injection e6 with e6 _ e7; subst e6; subst e7; clear hO5 hb5 hS5))
      clear q3
      go_loopw [7, 8] (fun ln i wr => ∃ k : Nat, k ≤ r.p.bl.length ∧ i = .int .i64 k ∧ ln = .int .i64 (lastF k) ∧ Hid (∀ j, j < k → blk j = true) ∧ Hid (Below w5.heap.size w5 wr)) (fun _ i _ => r.p.bl.length - (intOf i).toNat)
      case atStart => exact ⟨0, by omega, rfl, by rw [HBL0.out], fun j hj => absurd hj (by omega), Below.refl _ _⟩
      case round =>
        obtain ⟨wb, eb⟩ : ∃ x, x = wr := ⟨_, rfl⟩
        subst eb
        obtain ⟨k2, hk2, rfl, rfl, HK2b, HBb⟩ := hrel
        have HBv : Hid (Below w.heap.size w wb) := HB5.out.trans (HBb.out.mono HB5.out.size)
        have HKb := Lib.hid (HK5.out.below' HBb.out)
        by_cases hlt2 : k2 < r.p.bl.length
        · obtain ⟨b, off, eA, hb, hc⟩ := HS.out (by omega)
          have c0 : wb.cell? ⟨b, off + k2 * 2, none⟩ = some (.int .i64 (Pl.gR r.p.bl k2)) := (HBv.out.cell (p := ⟨b, off + k2 * 2, none⟩) (by show b < _; omega)).trans (hc k2 hlt2).1
          have c1 : wb.cell? ⟨b, off + k2 * 2 + 1, none⟩ = some (.int .u8 (Pl.gC r.p.bl k2)) := (HBv.out.cell (p := ⟨b, off + k2 * 2 + 1, none⟩) (by show b < _; omega)).trans (hc k2 hlt2).2
          have q4 : wb.cell? ⟨w.heap.size, 4, none⟩ = some (.slice (some ⟨b, off, none⟩) r.p.bl.length r.bc) := by rw [← eA]; exact (HKb.out.cell 4).trans rfl
          have HAT := Lib.hid (at_any A5 (Pl.all r.p) c5 w5.heap.size (Pl.gR r.p.bl k2, Pl.gC r.p.bl k2) wb (HS5.out.below HBb.out (Nat.le_refl _)) HBb.out.size (by have := HLN.out; omega))
          have e1 : Pl.sv (Pl.gR r.p.bl k2, Pl.gC r.p.bl k2) = .agg #[.int .i64 (Pl.gR r.p.bl k2), .int .u8 (Pl.gC r.p.bl k2)] := rfl
          rw [e1] at HAT
          unfold Pl.AtR at HAT
          have hst := HBS.out k2 HK2b.out
          have HLS := Lib.hid (HBLS.out k2)
          have HBk := Lib.hid (HBN.out k2 hlt2)
          clear e1 hc eA
          generalize Pl.ix (Pl.all r.p) (Pl.gR r.p.bl k2, Pl.gC r.p.bl k2) = n at *
          generalize Pl.gR r.p.bl k2 = sr at *
          generalize Pl.gC r.p.bl k2 = sc at *
          obtain ⟨ln, hln⟩ : ∃ x, x = lastF k2 := ⟨_, rfl⟩
          rw [← hln] at hst ⊢
          clear hln
          by_cases hnl : ln < n
          · have HN : Hid (∀ j, j < k2 + 1 → blk j = true) := fun j hj => by
              rcases Nat.lt_or_ge j k2 with hj' | hj'
              · exact HK2b.out j hj'
              · rw [show j = k2 by omega, hst, decide_eq_true hnl]
            have hd : decide (n ≤ ln) = false := decide_eq_false (by omega)
            clear hst
            go_wp2_with (first
              | (go_at_call 52; refine HAT.out.mono ?_; rintro e w6 ⟨rfl, hb6⟩; have HB6 := Lib.hid (HBb.out.trans (hb6.mono HBb.out.size)); clear hb6))
            go_roundw
            case rel => exact ⟨k2 + 1, by omega, by go_num, by rw [HLS.out], HN, HB6⟩
            case measure => simp [intOf]; omega
          · have HN := Lib.hid (HBk.out (by rw [hst, decide_eq_false hnl]))
            have hd : decide (n ≤ ln) = true := decide_eq_true (by omega)
            clear hst
            go_wp2_with (first
              | (go_at_call 52; refine HAT.out.mono ?_; rintro e w6 ⟨rfl, hb6⟩; have HB6 := Lib.hid (HBv.out.trans (hb6.mono HBv.out.size)); clear hb6))
            go_ret
            exact ⟨Pl.ret_bool HN.out.symm, HB6.out⟩
        · have HN := Lib.hid (HBY.out HX.out (fun j hj => HK2b.out j (by omega)))
          have q4 : wb.cell? ⟨w.heap.size, 4, none⟩ = some (.slice r.bA r.p.bl.length r.bc) := (HKb.out.cell 4).trans rfl
          go_wp2
          go_ret
          exact ⟨Pl.ret_bool HN.out.symm, HBv.out⟩
end Go.Proofs.YtfodabbmjggieaaGreat
