/- Legs, and seats of legs, as keys of maps; holders. -/
import Derived.Test.YtfodabbmjggieaaGreatG2
import Derived.Test.YtfodabbmjggieaaGreatMpS
namespace Go.Proofs.YtfodabbmjggieaaGreat
open Go.RowKit Go.WideMaps
set_option linter.unusedVariables false

namespace Kl
theorem mapM_pairs {α β γ : Type} (g : β → Option γ) (f : α → β) : ∀ l : List α, (l.mapM fun a => g (f a)) = ((l.map f).mapM g)
  | [] => by simp
  | a :: l => by simp [List.mapM_cons, mapM_pairs g f l]
theorem struct {P : Program} {d : Nat} {t : TypeId} {cs : List Value} {fs : Array Field} {ps : List (TypeId × Nat)} {Ls : List (List Lit)} (hu : P.underlying t = some (.struct fs)) (hn : fs.all (fun f => f.name != "_") = true) (hps : fs.toList.map (fun f => (f.type, f.offset)) = ps) (hl : cs.length = P.cellsOf t)
    (hM : (ps.mapM fun p => P.keyLits d p.1 ((cs.drop p.2).take (P.cellsOf p.1))) = some Ls) : P.keyLits (d + 1) t cs = some Ls.flatten := by
  have h1 : (fs.toList.mapM fun f => P.keyLits d f.type ((cs.drop f.offset).take (P.cellsOf f.type))) = some Ls := by
    rw [← hM, ← hps]
    exact mapM_pairs (fun p : TypeId × Nat => P.keyLits d p.1 ((cs.drop p.2).take (P.cellsOf p.1))) (fun f : Field => (f.type, f.offset)) fs.toList
  simp only [Program.keyLits, hu, h1]
  rw [if_pos ⟨hl, hn⟩]
  rfl
theorem keyOf_struct {P : Program} {t : TypeId} {cs : List Value} {fs : Array Field} {ls : List Lit} (hu : P.underlying t = some (.struct fs)) (hk : P.keyType t = true) (hf : (Value.agg cs.toArray).formed P t = true) (h : P.keyLits (P.types.size + 1) t cs = some ls) : Mp.KeyIs P t (.agg cs.toArray) := by
  refine ⟨.string (keyBytes ls), ?_⟩
  unfold keyOf
  rw [hu]
  simp only
  rw [hk, hf]
  simp only [Value.cells, Bool.and_self, if_true, h]
  rfl
end Kl
namespace Hd
/-- A seat of a leg. -/
structure K where
  car : ByteArray
  num : Int
  day : Int
  row : Int
  ltr : Int
  deriving DecidableEq
/-- A leg. -/
structure L where
  car : ByteArray
  num : Int
  day : Int
  deriving DecidableEq
/-- A holder. -/
structure H where
  loc : ByteArray
  pax : Int
  deriving DecidableEq
def K.leg (k : K) : L := ⟨k.car, k.num, k.day⟩
def K.seat (k : K) : Int × Int := (k.row, k.ltr)
def mk (l : L) (s : Int × Int) : K := ⟨l.car, l.num, l.day, s.1, s.2⟩
theorem mk_leg (l : L) (s : Int × Int) : (mk l s).leg = l := rfl
theorem mk_seat (l : L) (s : Int × Int) : (mk l s).seat = s := rfl
theorem mk_of (k : K) : mk k.leg k.seat = k := rfl
def h0 : H := ⟨⟨#[]⟩, 0⟩
def lv (l : L) : Value := .agg #[.string l.car, .int .i64 l.num, .int .i64 l.day]
def pv (k : K) : Value := .agg #[.string k.car, .int .i64 k.num, .int .i64 k.day, .int .i64 k.row, .int .u8 k.ltr]
def hv (h : H) : Value := .agg #[.string h.loc, .int .i64 h.pax]
theorem pv_inj {a b : K} (h : pv a = pv b) : a = b := by
  simp [pv] at h
  cases a; cases b; simp_all
theorem lv_inj {a b : L} (h : lv a = lv b) : a = b := by
  simp [lv] at h
  cases a; cases b; simp_all
theorem hv_inj {a b : H} (h : hv a = hv b) : a = b := by
  simp [hv] at h
  cases a; cases b; simp_all
structure OkL (l : L) : Prop where
  car : l.car.size ≤ 9223372036854775807
  n0 : -9223372036854775808 ≤ l.num
  n1 : l.num ≤ 9223372036854775807
  d0 : -9223372036854775808 ≤ l.day
  d1 : l.day ≤ 9223372036854775807
structure OkK (k : K) : Prop where
  leg : OkL k.leg
  r0 : -9223372036854775808 ≤ k.row
  r1 : k.row ≤ 9223372036854775807
  c0 : 0 ≤ k.ltr
  c1 : k.ltr ≤ 255
theorem rowP : (91 : TypeId) < Tryz.prog.types.size := of_decide_eq_true (by kernel_rfl)
theorem wideP : (match Tryz.prog.underlying 91 with | some (.array _ _) | some (.struct _) => true | _ => false) = true := by kernel_rfl
set_option maxRecDepth 20000 in
theorem lawP : KeyLaw Tryz.prog 91 := deep_law_laid laidOut (m := 5) (by omega) rowP (by kernel_rfl) wideP
theorem rowL : (35 : TypeId) < Tryz.prog.types.size := of_decide_eq_true (by kernel_rfl)
theorem wideL : (match Tryz.prog.underlying 35 with | some (.array _ _) | some (.struct _) => true | _ => false) = true := by kernel_rfl
set_option maxRecDepth 20000 in
theorem lawL : KeyLaw Tryz.prog 35 := deep_law_laid laidOut (m := 3) (by omega) rowL (by kernel_rfl) wideL
def FieldsOf (t : TypeId) (ps : List (TypeId × Nat)) : Prop := ∃ fs, Tryz.prog.underlying t = some (.struct fs) ∧ fs.all (fun f => f.name != "_") = true ∧ fs.toList.map (fun f => (f.type, f.offset)) = ps
theorem fields (t : TypeId) (ps : List (TypeId × Nat)) (h : (match Tryz.prog.underlying t with | some (.struct fs) => fs.all (fun f => f.name != "_") && decide (fs.toList.map (fun f => (f.type, f.offset)) = ps) | _ => false) = true) : FieldsOf t ps := by
  split at h
  · rename_i fs he
    simp only [Bool.and_eq_true, decide_eq_true_eq] at h
    exact ⟨fs, he, h.1, h.2⟩
  · cases h
theorem fS : FieldsOf 37 [(3, 0), (5, 1)] := fields _ _ (by kernel_rfl)
theorem fP : FieldsOf 91 [(35, 0), (37, 3)] := fields _ _ (by kernel_rfl)
theorem fL : FieldsOf 35 [(33, 0), (3, 2)] := fields _ _ (by kernel_rfl)
theorem fK : FieldsOf 33 [(9, 0), (3, 1)] := fields _ _ (by kernel_rfl)
theorem cellsS : Tryz.prog.cellsOf 37 = 2 := by kernel_rfl
theorem cells : Tryz.prog.cellsOf 91 = 5 ∧ Tryz.prog.cellsOf 35 = 3 ∧ Tryz.prog.cellsOf 33 = 2 ∧ Tryz.prog.cellsOf 5 = 1 ∧ Tryz.prog.cellsOf 3 = 1 ∧ Tryz.prog.cellsOf 9 = 1 := ⟨by kernel_rfl, by kernel_rfl, by kernel_rfl, by kernel_rfl, by kernel_rfl, by kernel_rfl⟩
theorem uU8 : Tryz.prog.underlying 5 = some (.int .u8) := by kernel_rfl
theorem litS (d : Nat) {s : ByteArray} (h : s.size ≤ 9223372036854775807) : Tryz.prog.keyLits (d + 1) 9 [.string s] = some [.string s.data.toList] := by
  simp only [Program.keyLits, Fl.uStr]
  rw [if_pos (show s.size ≤ maxLen by unfold maxLen; omega)]
theorem litI (d : Nat) {n : Int} (h0 : -9223372036854775808 ≤ n) (h1 : n ≤ 9223372036854775807) : Tryz.prog.keyLits (d + 1) 3 [.int .i64 n] = some [.int .i64 n] := by
  have hw := Go.WalkArith.wf_i64 ⟨h0, h1⟩
  simp only [Program.keyLits, Fl.uInt]
  rw [if_pos ⟨trivial, hw⟩]
theorem wf_u8 {n : Int} (h0 : 0 ≤ n) (h1 : n ≤ 255) : (Lit.int .u8 n).wf = true := by
  simp [Lit.wf]
  exact ⟨h0, h1⟩
theorem litU (d : Nat) {n : Int} (h0 : 0 ≤ n) (h1 : n ≤ 255) : Tryz.prog.keyLits (d + 1) 5 [.int .u8 n] = some [.int .u8 n] := by
  simp only [Program.keyLits, uU8]
  rw [if_pos ⟨trivial, wf_u8 h0 h1⟩]
theorem litK (d : Nat) {l : L} (h : OkL l) : Tryz.prog.keyLits (d + 2) 33 [.string l.car, .int .i64 l.num] = some [.string l.car.data.toList, .int .i64 l.num] := by
  obtain ⟨fs, hu, hn, hps⟩ := fK
  refine (Kl.struct (cs := [.string l.car, .int .i64 l.num]) (Ls := [[.string l.car.data.toList], [.int .i64 l.num]]) hu hn hps (by rw [cells.2.2.1]; rfl) ?_).trans (by simp)
  simp only [List.mapM_cons, List.mapM_nil, cells.2.2.2.2.1, cells.2.2.2.2.2, List.drop_zero, List.drop_succ_cons, List.take_succ_cons, List.take_zero, litS d h.car, litI d h.n0 h.n1]
  rfl
theorem litL (d : Nat) {l : L} (h : OkL l) : Tryz.prog.keyLits (d + 3) 35 [.string l.car, .int .i64 l.num, .int .i64 l.day] = some [.string l.car.data.toList, .int .i64 l.num, .int .i64 l.day] := by
  obtain ⟨fs, hu, hn, hps⟩ := fL
  refine (Kl.struct (cs := [.string l.car, .int .i64 l.num, .int .i64 l.day]) (Ls := [[.string l.car.data.toList, .int .i64 l.num], [.int .i64 l.day]]) hu hn hps (by rw [cells.2.1]; rfl) ?_).trans (by simp)
  simp only [List.mapM_cons, List.mapM_nil, cells.2.2.1, cells.2.2.2.2.1, List.drop_zero, List.drop_succ_cons, List.take_succ_cons, List.take_zero, litK d h, litI (d + 1) h.d0 h.d1]
  rfl
theorem litSt (d : Nat) {r c : Int} (h0 : -9223372036854775808 ≤ r) (h1 : r ≤ 9223372036854775807) (h2 : 0 ≤ c) (h3 : c ≤ 255) : Tryz.prog.keyLits (d + 2) 37 [.int .i64 r, .int .u8 c] = some [.int .i64 r, .int .u8 c] := by
  obtain ⟨fs, hu, hn, hps⟩ := fS
  refine (Kl.struct (cs := [.int .i64 r, .int .u8 c]) (Ls := [[.int .i64 r], [.int .u8 c]]) hu hn hps (by rw [cellsS]; rfl) ?_).trans (by simp)
  simp only [List.mapM_cons, List.mapM_nil, cells.2.2.2.1, cells.2.2.2.2.1, List.drop_zero, List.drop_succ_cons, List.take_succ_cons, List.take_zero, litI d h0 h1, litU d h2 h3]
  rfl
theorem litP (d : Nat) {k : K} (h : OkK k) : Tryz.prog.keyLits (d + 4) 91 [.string k.car, .int .i64 k.num, .int .i64 k.day, .int .i64 k.row, .int .u8 k.ltr] = some [.string k.car.data.toList, .int .i64 k.num, .int .i64 k.day, .int .i64 k.row, .int .u8 k.ltr] := by
  obtain ⟨fs, hu, hn, hps⟩ := fP
  refine (Kl.struct (cs := [.string k.car, .int .i64 k.num, .int .i64 k.day, .int .i64 k.row, .int .u8 k.ltr]) (Ls := [[.string k.car.data.toList, .int .i64 k.num, .int .i64 k.day], [.int .i64 k.row, .int .u8 k.ltr]]) hu hn hps (by rw [cells.1]; rfl) ?_).trans (by simp)
  have hL := litL d (l := k.leg) h.leg
  simp only [K.leg] at hL
  simp only [List.mapM_cons, List.mapM_nil, cells.2.1, cellsS, List.drop_zero, List.drop_succ_cons, List.take_succ_cons, List.take_zero, hL, litSt (d + 1) h.r0 h.r1 h.c0 h.c1]
  rfl
theorem sizeTys : ∃ n, Tryz.prog.types.size + 1 = n + 4 := ⟨Tryz.prog.types.size - 3, by have : (8 : Nat) < Tryz.prog.types.size := of_decide_eq_true (by kernel_rfl); omega⟩
theorem ktP : Tryz.prog.keyType 91 = true := by kernel_rfl
theorem ktL : Tryz.prog.keyType 35 = true := by kernel_rfl
theorem pv_key {k : K} (h : OkK k) : Mp.KeyIs Tryz.prog 91 (pv k) := by
  obtain ⟨fs, hu, hn, hps⟩ := fP
  obtain ⟨n, hz⟩ := sizeTys
  refine Kl.keyOf_struct (ls := [.string k.car.data.toList, .int .i64 k.num, .int .i64 k.day, .int .i64 k.row, .int .u8 k.ltr]) (cs := [.string k.car, .int .i64 k.num, .int .i64 k.day, .int .i64 k.row, .int .u8 k.ltr]) hu ktP (by simp [Value.formed, hu, cells.1]) ?_
  rw [hz]
  exact litP n h
theorem lv_key {l : L} (h : OkL l) : Mp.KeyIs Tryz.prog 35 (lv l) := by
  obtain ⟨fs, hu, hn, hps⟩ := fL
  obtain ⟨n, hz⟩ := sizeTys
  refine Kl.keyOf_struct (ls := [.string l.car.data.toList, .int .i64 l.num, .int .i64 l.day]) (cs := [.string l.car, .int .i64 l.num, .int .i64 l.day]) hu ktL (by simp [Value.formed, hu, cells.2.1]) ?_
  rw [hz]
  exact litL (n + 1) h
theorem uHeld : Tryz.prog.underlying 87 = some (.map 91 39) := by kernel_rfl
end Hd
end Go.Proofs.YtfodabbmjggieaaGreat
