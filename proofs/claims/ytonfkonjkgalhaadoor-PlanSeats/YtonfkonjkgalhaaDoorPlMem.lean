/- Seats and plans as plain things, and in memory; contracts of the least tests. -/
import Derived.Test.YtonfkonjkgalhaaDoorCdPlain
import Derived.Deep.MidRow
import Derived.Below
import Derived.Deep.QuietTactic
import Derived.BigQuiet
import Derived.Lib.Bytealg
import Derived.BigCall
namespace Go.Proofs.YtonfkonjkgalhaaDoor
open Go.RowKit
set_option linter.unusedVariables false

namespace Pl
theorem ret_bool {a b : Bool} (h : a = b) : Ending.returned (.bool a) = .returned (.bool b) := by rw [h]
theorem ret_int {k : IntKind} {a b : Int} (h : a = b) : Ending.returned (.int k a) = .returned (.int k b) := by rw [h]
/-- A seat: its row and its letter. -/
abbrev S := Int × Int
def sv (s : S) : Value := .agg #[.int .i64 s.1, .int .u8 s.2]
/-- A plan. -/
structure P where
  fr : Int
  la : Int
  lt : ByteArray
  ex : List Int
  bl : List S
/-- A plan in memory. -/
structure R where
  p : P
  eA : Option Addr
  ec : Nat
  bA : Option Addr
  bc : Nat
def enc (r : R) : List Value := [.int .i64 r.p.fr, .int .i64 r.p.la, .string r.p.lt, .slice r.eA r.p.ex.length r.ec, .slice r.bA r.p.bl.length r.bc]
def pv (r : R) : Value := .agg #[.int .i64 r.p.fr, .int .i64 r.p.la, .string r.p.lt, .slice r.eA r.p.ex.length r.ec, .slice r.bA r.p.bl.length r.bc]
def gI (l : List Int) (k : Nat) : Int := l.getD k 0
def gR (l : List S) (k : Nat) : Int := (l.getD k (0, 0)).1
def gC (l : List S) (k : Nat) : Int := (l.getD k (0, 0)).2
theorem gS (l : List S) (k : Nat) (h : k < l.length) : l[k] = (gR l k, gC l k) := by
  simp [gR, gC, List.getD_eq_getElem?_getD, List.getElem?_eq_getElem h]
theorem gI_get (l : List Int) (k : Nat) (h : k < l.length) : l[k] = gI l k := by
  simp [gI, List.getD_eq_getElem?_getD, List.getElem?_eq_getElem h]
/-- The slice at A holds the numbers l. -/
def Ints (w : World) (B : Nat) (A : Option Addr) (l : List Int) : Prop :=
  0 < l.length → ∃ b off, A = some ⟨b, off, none⟩ ∧ b < B ∧ ∀ j, j < l.length → w.cell? ⟨b, off + j, none⟩ = some (.int .i64 (gI l j))
/-- The slice at A holds the seats l. -/
def Sts (w : World) (B : Nat) (A : Option Addr) (l : List S) : Prop :=
  0 < l.length → ∃ b off, A = some ⟨b, off, none⟩ ∧ b < B ∧ ∀ j, j < l.length → w.cell? ⟨b, off + j * 2, none⟩ = some (.int .i64 (gR l j)) ∧ w.cell? ⟨b, off + j * 2 + 1, none⟩ = some (.int .u8 (gC l j))
theorem Ints.kept {w w' : World} {B : Nat} {A : Option Addr} {l : List Int} (h : Ints w B A l) (hb : ∀ k, k < B → w'.heap[k]? = w.heap[k]?) : Ints w' B A l := fun hl => by
  obtain ⟨b, off, e, hB, hc⟩ := h hl
  exact ⟨b, off, e, hB, fun j hj => (World.cell?_of_block (w := w) (a := ⟨b, _, none⟩) (hb b hB)).trans (hc j hj)⟩
theorem Ints.below {w w' : World} {B B' : Nat} {A : Option Addr} {l : List Int} (h : Ints w B A l) (hb : Below B' w w') (hB : B ≤ B') : Ints w' B A l := h.kept fun k hk => hb.block k (by omega)
theorem Ints.more {w : World} {B B' : Nat} {A : Option Addr} {l : List Int} (h : Ints w B A l) (hB : B ≤ B') : Ints w B' A l := fun hl => by
  obtain ⟨b, off, e, hb, hc⟩ := h hl
  exact ⟨b, off, e, by omega, hc⟩
theorem Sts.kept {w w' : World} {B : Nat} {A : Option Addr} {l : List S} (h : Sts w B A l) (hb : ∀ k, k < B → w'.heap[k]? = w.heap[k]?) : Sts w' B A l := fun hl => by
  obtain ⟨b, off, e, hB, hc⟩ := h hl
  exact ⟨b, off, e, hB, fun j hj => ⟨(World.cell?_of_block (w := w) (a := ⟨b, _, none⟩) (hb b hB)).trans (hc j hj).1, (World.cell?_of_block (w := w) (a := ⟨b, _, none⟩) (hb b hB)).trans (hc j hj).2⟩⟩
theorem Sts.below {w w' : World} {B B' : Nat} {A : Option Addr} {l : List S} (h : Sts w B A l) (hb : Below B' w w') (hB : B ≤ B') : Sts w' B A l := h.kept fun k hk => hb.block k (by omega)
theorem Sts.more {w : World} {B B' : Nat} {A : Option Addr} {l : List S} (h : Sts w B A l) (hB : B ≤ B') : Sts w B' A l := fun hl => by
  obtain ⟨b, off, e, hb, hc⟩ := h hl
  exact ⟨b, off, e, by omega, hc⟩
theorem below_drewN {B : Nat} {a w : World} (h : Below B a w) (n : Nat) : Below B a (w.drewN n) := ⟨h.os, h.tape, h.output, h.size, h.block⟩
theorem bcell {W w1 : World} (hb : Below W.heap.size W w1) : (∀ b o, b < W.heap.size → w1.cell? ⟨b, o, none⟩ = W.cell? ⟨b, o, none⟩) ∧ (∀ b o, b < W.heap.size → w1.frozen? ⟨b, o, none⟩ = W.frozen? ⟨b, o, none⟩) :=
  ⟨fun b o h => hb.cell (p := ⟨b, o, none⟩) h, fun b o h => hb.frozen (p := ⟨b, o, none⟩) h⟩
/-- What numbers and lengths a plan in memory may have. -/
structure Wf (r : R) : Prop where
  s : r.p.lt.size ≤ 9223372036854775807
  f0 : -9223372036854775808 ≤ r.p.fr
  f1 : r.p.fr ≤ 9223372036854775807
  l0 : -9223372036854775808 ≤ r.p.la
  l1 : r.p.la ≤ 9223372036854775807
  e : r.p.ex.length ≤ 9223372036854775807
  b : r.p.bl.length ≤ 9223372036854775807
  ec : r.p.ex.length ≤ r.ec
  bc : r.p.bl.length ≤ r.bc
  c : ∀ s ∈ r.p.bl, 0 ≤ s.2 ∧ s.2 ≤ 255
def inRow (p : P) (n : Int) : Bool := decide (p.fr ≤ n) && decide (n ≤ p.la)
def hasB (s : ByteArray) (c : Int) : Bool := (Cd.bs s).contains c
def place (p : P) (s : S) : Bool := inRow p s.1 && Cd.isL s.2 && hasB p.lt s.2
def lss (a b : S) : Bool := decide (a.1 < b.1) || (decide (a.1 = b.1) && decide (a.2 < b.2))
def rowsOk (p : P) : Bool := decide (1 ≤ p.fr) && decide (p.fr ≤ p.la) && decide (p.la ≤ 60)
theorem idx_nn (l : List UInt8) (c : UInt8) : (0 ≤ Lib.indexByte l c) ↔ c ∈ l := by
  induction l with
  | nil => simp [Lib.indexByte]
  | cons b l ih =>
    unfold Lib.indexByte
    have hg := Lib.indexByte_ge l c
    by_cases h : b = c
    · simp [h]
    · have h' : (b == c) = false := by simp [h]
      rw [h']
      by_cases h2 : Lib.indexByte l c = -1
      · rw [h2] at ih ⊢
        have : c ∉ l := fun hm => by have := ih.2 hm; omega
        simp only [beq_self_eq_true]
        simp [this, Ne.symm h]
      · have h2' : (Lib.indexByte l c == -1) = false := by simp [h2]
        rw [h2']
        have hc : c ∈ l := ih.1 (by omega)
        simp [hc]
        omega
theorem hasB_idx (s : ByteArray) (c : Int) (h0 : 0 ≤ c) (h1 : c ≤ 255) : hasB s c = decide (0 ≤ Lib.indexByte s.data.toList c.toNat.toUInt8) := by
  rw [Bool.eq_iff_iff, decide_eq_true_iff, idx_nn]
  unfold hasB
  rw [List.contains_iff_mem]
  unfold Cd.bs
  rw [List.mem_map]
  constructor
  · rintro ⟨b, hb, e⟩
    have : c.toNat.toUInt8 = b := by rw [← e]; simp
    rw [this]; exact hb
  · intro h
    refine ⟨_, h, ?_⟩
    rw [Nat.toUInt8_eq, UInt8.toNat_ofNat']
    omega
end Pl

theorem isLetter_any (c : Int) (w : World) : Calls Tryd.prog 35 #[.int .u8 c] w fun e w' => e = .returned (.bool (Cd.isL c)) ∧ w = w' := by
  go_enter Tryd.func35, Tryd.ntmps35
  go_wp2
  all_goals go_ret
  all_goals exact ⟨by simp [Cd.isL, *] <;> omega, rfl⟩
theorem hasRow_any (r : Pl.R) (n : Int) (w : World) : Calls Tryd.prog 50 #[Pl.pv r, .int .i64 n] w fun e w' => e = .returned (.bool (Pl.inRow r.p n)) ∧ Below w.heap.size w w' := by
  have HE : Hid (Pl.inRow r.p n = (decide (r.p.fr ≤ n) && decide (n ≤ r.p.la))) := show _ = _ by rfl
  obtain ⟨⟨fr, la, lt, ex, bl⟩, eA, ec, bA, bc⟩ := r
  simp only at HE ⊢
  unfold Pl.pv
  have hbe := (Below.refl w.heap.size w).alloc (Nat.le_refl _) (.cells #[.int .i64 fr, .int .i64 la, .string lt, .slice eA ex.length ec, .slice bA bl.length bc] 32)
  generalize Pl.inRow _ n = q at *
  by_cases h1 : fr ≤ n
  · go_enter Tryd.func50, Tryd.ntmps50
    go_wp2
    go_ret
    exact ⟨Pl.ret_bool (by rw [HE.out]; simp [h1]), hbe⟩
  · go_enter Tryd.func50, Tryd.ntmps50
    go_wp2
    go_ret
    exact ⟨Pl.ret_bool (by rw [HE.out, decide_eq_false (p := fr ≤ n) (by omega)]; rfl), hbe⟩
theorem below_any (a b : Pl.S) (w : World) : Calls Tryd.prog 52 #[Pl.sv a, Pl.sv b] w fun e w' => e = .returned (.bool (Pl.lss a b)) ∧ Below w.heap.size w w' := by
  obtain ⟨a1, a2⟩ := a
  obtain ⟨b1, b2⟩ := b
  have HE : Hid (Pl.lss (a1, a2) (b1, b2) = (decide (a1 < b1) || (decide (a1 = b1) && decide (a2 < b2)))) := show _ = _ by rfl
  unfold Pl.sv
  have hbe := ((Below.refl w.heap.size w).alloc (Nat.le_refl _) (.cells #[.int .i64 a1, .int .u8 a2] 23)).alloc (by simp) (.cells #[.int .i64 b1, .int .u8 b2] 23)
  generalize Pl.lss _ _ = q at *
  by_cases h1 : a1 < b1
  · go_enter Tryd.func52, Tryd.ntmps52
    go_wp2
    go_ret
    exact ⟨Pl.ret_bool (by rw [HE.out]; simp [h1]), hbe⟩
  · by_cases h2 : a1 = b1
    · have HN : Hid (q = decide (a2 < b2)) := show _ = _ by rw [HE.out, decide_eq_false h1, decide_eq_true h2]; simp
      subst h2
      clear HE h1
      go_enter Tryd.func52, Tryd.ntmps52
      go_wp2
      go_ret
      exact ⟨Pl.ret_bool HN.out.symm, hbe⟩
    · have HN : Hid (q = false) := show _ = _ by rw [HE.out, decide_eq_false h1, decide_eq_false h2]; rfl
      clear HE
      go_enter Tryd.func52, Tryd.ntmps52
      go_wp2
      go_ret
      exact ⟨Pl.ret_bool HN.out.symm, hbe⟩
theorem rightRows_any (r : Pl.R) (w : World) : Calls Tryd.prog 41 #[Pl.pv r] w fun e w' => e = .returned (.bool (Pl.rowsOk r.p)) ∧ Below w.heap.size w w' := by
  have HE : Hid (Pl.rowsOk r.p = (decide (1 ≤ r.p.fr) && decide (r.p.fr ≤ r.p.la) && decide (r.p.la ≤ 60))) := show _ = _ by rfl
  obtain ⟨⟨fr, la, lt, ex, bl⟩, eA, ec, bA, bc⟩ := r
  simp only at HE ⊢
  unfold Pl.pv
  have hbe := (Below.refl w.heap.size w).alloc (Nat.le_refl _) (.cells #[.int .i64 fr, .int .i64 la, .string lt, .slice eA ex.length ec, .slice bA bl.length bc] 32)
  generalize Pl.rowsOk _ = q at *
  by_cases h1 : 1 ≤ fr
  · by_cases h2 : fr ≤ la
    · go_enter Tryd.func41, Tryd.ntmps41
      go_wp2
      go_ret
      exact ⟨Pl.ret_bool (by rw [HE.out, decide_eq_true h1, decide_eq_true h2]; rfl), hbe⟩
    · go_enter Tryd.func41, Tryd.ntmps41
      go_wp2
      go_ret
      exact ⟨Pl.ret_bool (by rw [HE.out, decide_eq_true h1, decide_eq_false (p := fr ≤ la) (by omega)]; rfl), hbe⟩
  · go_enter Tryd.func41, Tryd.ntmps41
    go_wp2
    go_ret
    exact ⟨Pl.ret_bool (by rw [HE.out, decide_eq_false (p := 1 ≤ fr) (by omega)]; rfl), hbe⟩
theorem litIndex_any (s : ByteArray) (c : Int) (w : World) : Calls Tryd.prog 62 #[.string s, .int .u8 c] w fun e w' => e = .returned (.int .i64 (Lib.indexByte s.data.toList c.toNat.toUInt8)) ∧ w' = w := by
  go_enter Tryd.func62, Tryd.ntmps62
  go_wp2
  rw [run_callFunc_extern Tryd.func68 (by kernel_rfl) (by kernel_rfl) (by kernel_rfl) (e := Extern.BytealgIndexByte.indexByte) (by kernel_rfl), Lib.run_indexByteString]
  simp only [Result.andThen]
  rw [Oper.upon_value]
  go_wp2
  go_ret
  exact ⟨rfl, rfl⟩
theorem indexByte_any (s : ByteArray) (c : Int) (w : World) : Calls Tryd.prog 56 #[.string s, .int .u8 c] w fun e w' => e = .returned (.int .i64 (Lib.indexByte s.data.toList c.toNat.toUInt8)) ∧ w' = w := by
  go_enter Tryd.func56, Tryd.ntmps56
  go_wp2_with (go_at_call 62; refine (litIndex_any _ _ _).mono ?_; rintro e w' ⟨rfl, rfl⟩)
  go_ret
  exact ⟨rfl, rfl⟩
set_option maxHeartbeats 1000000 in
theorem hasPlace_any (r : Pl.R) (s : Pl.S) (w : World) (h0 : 0 ≤ s.2) (h1 : s.2 ≤ 255) : Calls Tryd.prog 51 #[Pl.pv r, Pl.sv s] w fun e w' => e = .returned (.bool (Pl.place r.p s)) ∧ Below w.heap.size w w' := by
  have HE : Hid (Pl.place r.p s = (Pl.inRow r.p s.1 && Cd.isL s.2 && decide (0 ≤ Lib.indexByte r.p.lt.data.toList s.2.toNat.toUInt8))) := show _ = _ by rw [Pl.place, Pl.hasB_idx _ _ h0 h1]
  have HR := Lib.hid (fun w => hasRow_any r s.1 w)
  have HI := Lib.hid (fun w => indexByte_any r.p.lt s.2 w)
  have HL := Lib.hid (fun w => isLetter_any s.2 w)
  obtain ⟨s1, s2⟩ := s
  obtain ⟨⟨fr, la, lt, ex, bl⟩, eA, ec, bA, bc⟩ := r
  simp only at HE HR HI HL ⊢
  generalize Pl.inRow _ s1 = q1 at *
  generalize Cd.isL s2 = q2 at *
  generalize Lib.indexByte lt.data.toList s2.toNat.toUInt8 = q3 at *
  generalize Pl.place _ _ = q at *
  unfold Pl.sv
  unfold Pl.pv at *
  simp only at HR ⊢
  obtain ⟨w0, ew0⟩ : ∃ w0, w0 = (w.alloc (.cells #[.int .i64 fr, .int .i64 la, .string lt, .slice eA ex.length ec, .slice bA bl.length bc] 32)).alloc (.cells #[.int .i64 s1, .int .u8 s2] 23) := ⟨_, rfl⟩
  have hbe : Hid (Below w.heap.size w w0) := by rw [ew0]; exact ((Below.refl w.heap.size w).alloc (Nat.le_refl _) _).alloc (by simp) _
  have hq : w.heap.size + 1 < ((w.alloc (.cells #[.int .i64 fr, .int .i64 la, .string lt, .slice eA ex.length ec, .slice bA bl.length bc] 32)).alloc (.cells #[.int .i64 s1, .int .u8 s2] 23)).heap.size := by simp
  have hq0 : w.heap.size < ((w.alloc (.cells #[.int .i64 fr, .int .i64 la, .string lt, .slice eA ex.length ec, .slice bA bl.length bc] 32)).alloc (.cells #[.int .i64 s1, .int .u8 s2] 23)).heap.size := by simp; omega
  cases q1
  · go_enter Tryd.func51, Tryd.ntmps51
    go_wp2_with (go_at_call 50; refine (HR.out _).mono ?_; rintro e w1 ⟨rfl, hb1⟩; obtain ⟨hc1, hf1⟩ := Pl.bcell hb1)
    go_ret
    exact ⟨Pl.ret_bool (by rw [HE.out]; rfl), hbe.out.trans (by rw [ew0]; exact hb1.mono (by simp; omega))⟩
  · cases q2
    · go_enter Tryd.func51, Tryd.ntmps51
      go_wp2_with (first
        | (go_at_call 50; refine (HR.out _).mono ?_; rintro e w1 ⟨rfl, hb1⟩; obtain ⟨hc1, hf1⟩ := Pl.bcell hb1)
        | (go_at_call 35; refine (HL.out _).mono ?_; rintro e w2 ⟨rfl, rfl⟩))
      go_ret
      exact ⟨Pl.ret_bool (by rw [HE.out]; rfl), hbe.out.trans (by rw [ew0]; exact hb1.mono (by simp; omega))⟩
    · go_enter Tryd.func51, Tryd.ntmps51
      go_wp2_with (first
        | (go_at_call 50; refine (HR.out _).mono ?_; rintro e w1 ⟨rfl, hb1⟩; obtain ⟨hc1, hf1⟩ := Pl.bcell hb1)
        | (go_at_call 35; refine (HL.out _).mono ?_; rintro e w2 ⟨rfl, rfl⟩)
        | (go_at_call 56; refine (HI.out _).mono ?_; rintro e w2 ⟨rfl, rfl⟩))
      go_ret
      exact ⟨Pl.ret_bool (by rw [HE.out]; rfl), hbe.out.trans (by rw [ew0]; exact hb1.mono (by simp; omega))⟩
end Go.Proofs.YtonfkonjkgalhaaDoor
