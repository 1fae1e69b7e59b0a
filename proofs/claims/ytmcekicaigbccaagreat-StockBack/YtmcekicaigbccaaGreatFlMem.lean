/- Flights as plain things, and in memory. -/
import Derived.Test.YtmcekicaigbccaaGreatCdMore
import Derived.Test.YtmcekicaigbccaaGreatDtPlain
import Derived.Deep.MidRow
import Derived.Below
import Derived.Deep.QuietTactic
import Derived.BigQuiet
namespace Go.Proofs.YtmcekicaigbccaaGreat
open Go.RowKit
set_option linter.unusedVariables false

namespace Fl
/-- A flight: its classes are letters with levels. -/
structure F where
  car : ByteArray
  num : Int
  frm : ByteArray
  to : ByteArray
  days : Int
  dep : Int
  arr : Int
  cls : List (Int × Int)
  plan : Int
instance : Inhabited F := ⟨⟨⟨#[]⟩, 0, ⟨#[]⟩, ⟨#[]⟩, 0, 0, 0, [], 0⟩⟩
/-- A flight in memory: where its classes lie. -/
structure R where
  f : F
  A : Option Addr
  cap : Nat
instance : Inhabited R := ⟨⟨default, none, 0⟩⟩
def enc (r : R) : List Value := [.string r.f.car, .int .i64 r.f.num, .string r.f.frm, .string r.f.to, .int .u8 r.f.days, .int .i64 r.f.dep, .int .i64 r.f.arr, .slice r.A r.f.cls.length r.cap, .int .i64 r.f.plan]
def fv (r : R) : Value := .agg #[.string r.f.car, .int .i64 r.f.num, .string r.f.frm, .string r.f.to, .int .u8 r.f.days, .int .i64 r.f.dep, .int .i64 r.f.arr, .slice r.A r.f.cls.length r.cap, .int .i64 r.f.plan]
theorem fv_enc (r : R) : Value.agg (enc r).toArray = fv r := rfl
theorem enc_len (r : R) : (enc r).length = 9 := rfl
theorem enc_one (r : R) : ∀ v ∈ enc r, v.oneCell' = true := by
  intro v hv
  simp only [enc, List.mem_cons, List.not_mem_nil, or_false] at hv
  rcases hv with rfl | rfl | rfl | rfl | rfl | rfl | rfl | rfl | rfl <;> rfl
/-- The slice at A holds the classes l. -/
def Cls (w : World) (B : Nat) (A : Option Addr) (l : List (Int × Int)) : Prop :=
  0 < l.length → ∃ b off, A = some ⟨b, off, none⟩ ∧ b < B ∧ ∀ j (hj : j < l.length), w.cell? ⟨b, off + j * 2, none⟩ = some (.int .u8 l[j].1) ∧ w.cell? ⟨b, off + j * 2 + 1, none⟩ = some (.int .i64 l[j].2)
theorem Cls.kept {w w' : World} {B : Nat} {A : Option Addr} {l : List (Int × Int)} (h : Cls w B A l) (hb : ∀ k, k < B → w'.heap[k]? = w.heap[k]?) : Cls w' B A l := fun hl => by
  obtain ⟨b, off, e, hB, hc⟩ := h hl
  exact ⟨b, off, e, hB, fun j hj => ⟨(World.cell?_of_block (w := w) (a := ⟨b, _, none⟩) (hb b hB)).trans (hc j hj).1, (World.cell?_of_block (w := w) (a := ⟨b, _, none⟩) (hb b hB)).trans (hc j hj).2⟩⟩
theorem Cls.below {w w' : World} {B B' : Nat} {A : Option Addr} {l : List (Int × Int)} (h : Cls w B A l) (hb : Below B' w w') (hB : B ≤ B') : Cls w' B A l := h.kept fun k hk => hb.block k (by omega)
theorem Cls.more {w : World} {B B' : Nat} {A : Option Addr} {l : List (Int × Int)} (h : Cls w B A l) (hB : B ≤ B') : Cls w B' A l := fun hl => by
  obtain ⟨b, off, e, hb, hc⟩ := h hl
  exact ⟨b, off, e, by omega, hc⟩
/-- What numbers and lengths a flight in memory may have. -/
structure Wf (r : R) : Prop where
  car : r.f.car.size ≤ 9223372036854775807
  frm : r.f.frm.size ≤ 9223372036854775807
  to : r.f.to.size ≤ 9223372036854775807
  n0 : -9223372036854775808 ≤ r.f.num
  n1 : r.f.num ≤ 9223372036854775807
  d0 : 0 ≤ r.f.days
  d1 : r.f.days ≤ 255
  p0 : -9223372036854775808 ≤ r.f.dep
  p1 : r.f.dep ≤ 9223372036854775807
  a0 : -9223372036854775808 ≤ r.f.arr
  a1 : r.f.arr ≤ 9223372036854775807
  l : r.f.cls.length ≤ 9223372036854775807
  lc : r.f.cls.length ≤ r.cap
  nc : r.A = none → r.cap = 0
  sp : ∀ a, r.A = some a → 0 < r.f.cls.length → a.spot = none
theorem below_drewN {B : Nat} {a w : World} (h : Below B a w) (n : Nat) : Below B a (w.drewN n) := ⟨h.os, h.tape, h.output, h.size, h.block⟩
theorem bcell {W w1 : World} (hb : Below W.heap.size W w1) : (∀ b o, b < W.heap.size → w1.cell? ⟨b, o, none⟩ = W.cell? ⟨b, o, none⟩) ∧ (∀ b o, b < W.heap.size → w1.frozen? ⟨b, o, none⟩ = W.frozen? ⟨b, o, none⟩) :=
  ⟨fun b o h => hb.cell (p := ⟨b, o, none⟩) h, fun b o h => hb.frozen (p := ⟨b, o, none⟩) h⟩
theorem str_ne {a b : ByteArray} (h : a ≠ b) : (a.toList == b.toList) = false := by
  rw [ByteArray.toList_eq, ByteArray.toList_eq]
  simp only [beq_eq_false_iff_ne]
  intro e
  apply h
  apply ByteArray.ext
  exact Array.toList_inj.1 e
theorem str_eq {a b : ByteArray} (h : a = b) : (a.toList == b.toList) = true := by subst h; exact beq_self_eq_true _
/-- Class k. -/
def lt (l : List (Int × Int)) (k : Nat) : Int := (l.getD k (0, 0)).1
def lv (l : List (Int × Int)) (k : Nat) : Int := (l.getD k (0, 0)).2
def cOk (l : List (Int × Int)) (k : Nat) : Bool := Cd.isL (lt l k) && decide (0 ≤ lv l k) && decide (lv l k ≤ 400) && (decide (k = 0) || decide (lt l (k - 1) < lt l k))
def clsOk (l : List (Int × Int)) : Bool := decide (1 ≤ l.length) && decide (l.length ≤ 6) && (List.range l.length).all (cOk l)
def keyOk (f : F) : Bool := Cd.carrier f.car && decide (1 ≤ f.num) && decide (f.num ≤ 9999)
def routeOk (f : F) : Bool := Cd.city f.frm && Cd.city f.to && decide (f.frm ≠ f.to)
def timesOk (f : F) : Bool := decide (1 ≤ f.days) && decide (f.days ≤ 127) && Dt.isMin f.dep && Dt.isMin f.arr
def planOk (f : F) : Bool := decide (0 ≤ f.plan) && decide (f.plan < 8)
def right (f : F) : Bool := keyOk f && routeOk f && timesOk f && clsOk f.cls && planOk f
theorem Cls.at {w : World} {B : Nat} {A : Option Addr} {l : List (Int × Int)} (h : Cls w B A l) (hl : 0 < l.length) : ∃ b off, A = some ⟨b, off, none⟩ ∧ b < B ∧ ∀ j, j < l.length → w.cell? ⟨b, off + j * 2, none⟩ = some (.int .u8 (lt l j)) ∧ w.cell? ⟨b, off + j * 2 + 1, none⟩ = some (.int .i64 (lv l j)) := by
  obtain ⟨b, off, e, hB, hc⟩ := h hl
  refine ⟨b, off, e, hB, fun j hj => ?_⟩
  have := hc j hj
  simp only [lt, lv, List.getD_eq_getElem?_getD, List.getElem?_eq_getElem hj, Option.getD_some]
  exact this
end Fl

theorem isMinute_any (n : Int) (w : World) : Calls Tryz.prog 92 #[.int .i64 n] w fun e w' => e = .returned (.bool (Dt.isMin n)) ∧ w = w' := by
  by_cases h : 0 ≤ n ∧ n < 1440
  · have HN : Hid (Dt.isMin n = true) := show _ = _ by simp [Dt.isMin, h]
    have HJ := Lib.hid (fun w => join_yes 0 n w (by decide) (by decide) h.1 h.2)
    clear h
    go_enter Tryz.func92, Tryz.ntmps92
    go_wp2_with (go_at_call 122; refine (HJ.out _).mono ?_; rintro e w' ⟨rfl, rfl⟩)
    go_ret
    exact ⟨Cd.ret_bool HN.out.symm, rfl⟩
  · have HN : Hid (Dt.isMin n = false) := show _ = _ by simp [Dt.isMin]; omega
    have HJ := Lib.hid (fun w => join_no 0 n w (by omega))
    clear h
    go_enter Tryz.func92, Tryz.ntmps92
    go_wp2_with (go_at_call 122; refine (HJ.out _).mono ?_; rintro e w' ⟨rfl, rfl⟩)
    go_ret
    exact ⟨Cd.ret_bool HN.out.symm, rfl⟩
theorem rightKey_any (f : Fl.F) (w : World) (hs : f.car.size ≤ 9223372036854775807) : Calls Tryz.prog 69 #[.agg #[.string f.car, .int .i64 f.num]] w fun e w' => e = .returned (.bool (Fl.keyOk f)) ∧ Below w.heap.size w w' := by
  have hc := Lib.hid (fun w => carrier_any f.car w hs)
  have HE : Hid (Fl.keyOk f = (Cd.carrier f.car && decide (1 ≤ f.num) && decide (f.num ≤ 9999))) := show _ = _ by rfl
  have hbe := (Below.refl w.heap.size w).alloc (Nat.le_refl _) (.cells #[.string f.car, .int .i64 f.num] 32)
  generalize Fl.keyOk f = r at *
  generalize Cd.carrier f.car = c at *
  cases c
  · go_enter Tryz.func69, Tryz.ntmps69
    go_wp2_with (go_at_call 90; refine (hc.out _).mono ?_; rintro e w' ⟨rfl, rfl⟩)
    go_ret
    exact ⟨Cd.ret_bool (by rw [HE.out]; rfl), hbe⟩
  · by_cases h1 : 1 ≤ f.num
    · go_enter Tryz.func69, Tryz.ntmps69
      go_wp2_with (go_at_call 90; refine (hc.out _).mono ?_; rintro e w' ⟨rfl, rfl⟩)
      go_ret
      exact ⟨Cd.ret_bool (by rw [HE.out]; simp [h1]), hbe⟩
    · go_enter Tryz.func69, Tryz.ntmps69
      go_wp2_with (go_at_call 90; refine (hc.out _).mono ?_; rintro e w' ⟨rfl, rfl⟩)
      go_ret
      exact ⟨Cd.ret_bool (by rw [HE.out, decide_eq_false (p := 1 ≤ f.num) (by omega)]; rfl), hbe⟩
end Go.Proofs.YtmcekicaigbccaaGreat
