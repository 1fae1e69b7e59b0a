/- leg of the statements. -/
import Derived.Test.YtfodabbmjggieaaGreatHdBgn
import Derived.Test.YtfodabbmjggieaaGreatHdLegs
namespace Go.Proofs.YtfodabbmjggieaaGreat
open Go.RowKit Go.WideMaps
set_option linter.unusedVariables false

namespace Hd
/-- An act. -/
structure A where
  kind : Int
  fl : Int
  car : ByteArray
  num : Int
  day : Int
  row : Int
  ltr : Int
  loc : ByteArray
  pax : Int
def acs (a : A) : List Value := [.int .i64 a.kind, .int .i64 a.fl, .string a.car, .int .i64 a.num, .int .i64 a.day, .int .i64 a.row, .int .u8 a.ltr, .string a.loc, .int .i64 a.pax]
def av (a : A) : Value := .agg #[.int .i64 a.kind, .int .i64 a.fl, .string a.car, .int .i64 a.num, .int .i64 a.day, .int .i64 a.row, .int .u8 a.ltr, .string a.loc, .int .i64 a.pax]
structure OkA (a : A) : Prop where
  f0 : -9223372036854775808 ≤ a.fl
  f1 : a.fl ≤ 9223372036854775807
  car : a.car.size ≤ 9223372036854775807
  n0 : -9223372036854775808 ≤ a.num
  n1 : a.num ≤ 9223372036854775807
  d0 : -9223372036854775808 ≤ a.day
  d1 : a.day ≤ 9223372036854775807
  r0 : -9223372036854775808 ≤ a.row
  r1 : a.row ≤ 9223372036854775807
  c0 : 0 ≤ a.ltr
  c1 : a.ltr ≤ 255
def A.hol (a : A) : H := ⟨a.loc, a.pax⟩
/-- The leg of an act. -/
def legOf (rs : List Fl.R) (a : A) : L := if h : 0 ≤ a.fl ∧ a.fl < rs.length then ⟨(rs[a.fl.toNat]'(by omega)).f.car, (rs[a.fl.toNat]'(by omega)).f.num, a.day⟩ else ⟨a.car, a.num, a.day⟩
def keyOf (rs : List Fl.R) (a : A) : K := mk (legOf rs a) (a.row, a.ltr)
theorem legOf_in {rs : List Fl.R} {a : A} {j : Nat} (hj : j < rs.length) (h : a.fl = j) : legOf rs a = ⟨rs[j].f.car, rs[j].f.num, a.day⟩ := by
  unfold legOf
  rw [dif_pos (by omega)]
  have : a.fl.toNat = j := by omega
  simp only [this]
theorem legOf_out {rs : List Fl.R} {a : A} (h : ¬ (0 ≤ a.fl ∧ a.fl < rs.length)) : legOf rs a = ⟨a.car, a.num, a.day⟩ := by
  unfold legOf
  rw [dif_neg h]
theorem legOf_ok {rs : List Fl.R} {a : A} (ha : OkA a) (hw : ∀ r ∈ rs, Fl.Wf r) : OkL (legOf rs a) := by
  by_cases h : 0 ≤ a.fl ∧ a.fl < rs.length
  · obtain ⟨j, hj⟩ : ∃ j : Nat, a.fl = j := ⟨a.fl.toNat, by omega⟩
    have hjl : j < rs.length := by omega
    rw [legOf_in hjl hj]
    have hr := hw _ (List.getElem_mem hjl)
    exact ⟨hr.car, hr.n0, hr.n1, ha.d0, ha.d1⟩
  · rw [legOf_out h]
    exact ⟨ha.car, ha.n0, ha.n1, ha.d0, ha.d1⟩
theorem keyOf_ok {rs : List Fl.R} {a : A} (ha : OkA a) (hw : ∀ r ∈ rs, Fl.Wf r) : OkK (keyOf rs a) := ⟨legOf_ok ha hw, ha.r0, ha.r1, ha.c0, ha.c1⟩
theorem zLeg (w : World) : (zeroValue 35).run Tryz.prog w = .ok (.agg (encL ⟨⟨#[]⟩, 0, 0⟩).toArray) w := by kernel_rfl
theorem iLeg : (Tryz.prog.info? 35).map (·.size) = some 3 := by kernel_rfl
theorem iKey : (Tryz.prog.info? 33).map (·.size) = some 2 := by kernel_rfl
end Hd
namespace Rw
section
variable {w : World} {ops : Array Oper} {rest : List Oper} {o : Oper} {a : Act} {Q : Exit → Act → World → Prop}
/-- A store of a part at the block's begin. -/
theorem wpList_store_part (hgd : o.guard = none) (t : TypeId) (x y : Operand) (hop : o.op = Op.store t x y) (g : Nat) (hx : a.eval x = .pointer (some ⟨g, 0, none⟩)) (cs : List Value) (hy : a.eval y = .agg cs.toArray)
    (cur : List Value) (e : TypeId) (hg : Blk w g e cur) (hi : (Tryz.prog.info? t).map (·.size) = some cs.length) (hfit : cs.length ≤ cur.length) (h1 : ∀ v ∈ cs, v.oneCell' = true)
    (hK : ∀ w', Blk w' g e (cs ++ cur.drop cs.length) → Fr (· = g) w w' → wpList Tryz.prog ops Q rest (a.put o.dst undef) w') : wpList Tryz.prog ops Q (o :: rest) a w := by
  refine wpList_plain hgd fun K hK' => ?_
  have hr := run_store_row (w := w) (off := 0) (t := t) hg cs hi (by simpa using hfit) h1
  unfold Oper.wp execOp
  simp only [hop, hx, hy, Sem.run_bind, hr, Sem.run_pure, Result.andThen_ok]
  refine hK' _ _ (hK _ ?_ (Fr.setRow w g _))
  unfold Blk
  rw [setRow_heap w g cur.toArray _ e (0, 0) hg]
  simp
end
end Rw
set_option maxHeartbeats 2000000 in
set_option maxRecDepth 20000 in
theorem leg_any (A C : Option Addr) (rs : List Fl.R) (n2 cap c B : Nat) (a : Hd.A) (w : World) (h : Fl.Fls w B A rs) (hB : B ≤ w.heap.size) (hl : rs.length ≤ 9223372036854775807) (ha : Hd.OkA a) :
    Calls Tryz.prog 9 #[.agg #[.slice A rs.length cap, .slice C n2 c], Hd.av a] w fun e w' => e = .returned (.agg #[.string (Hd.legOf rs a).car, .int .i64 (Hd.legOf rs a).num, .int .i64 (Hd.legOf rs a).day]) ∧ Below w.heap.size w w' := by
  have hf0 := ha.f0
  have hf1 := ha.f1
  have HIn := Lib.hid (fun j (hj : j < rs.length) (h : a.fl = j) => Hd.legOf_in (a := a) hj h)
  have HOut := Lib.hid (fun h => Hd.legOf_out (rs := rs) (a := a) h)
  generalize Hd.legOf rs a = k at *
  obtain ⟨kind, fl, car, num, day, row, ltr, loc, pax⟩ := a
  unfold Hd.av
  simp only at hf0 hf1 HIn HOut ⊢
  have HF := Lib.hid h
  clear h ha
  by_cases hin : 0 ≤ fl ∧ fl < rs.length
  · obtain ⟨h0, h1⟩ := hin
    obtain ⟨j, hj⟩ : ∃ j : Nat, fl = j := ⟨fl.toNat, by omega⟩
    have hjl : j < rs.length := by omega
    have HK := Lib.hid (HIn.out j hjl hj)
    obtain ⟨b, off, hA, hbB, hrow⟩ := HF.out.row (by omega)
    have hr0 := hrow j hjl
    subst hj hA
    obtain ⟨e0, e1⟩ := Fl.enc_cell hr0
    generalize rs[j].f.car = kc at *
    generalize rs[j].f.num = kn at *
    clear hrow hr0 HIn HOut HF
    have E0 := Lib.hid e0
    have E1 := Lib.hid e1
    clear e0 e1
    generalize rs.length = n at *
    go_enter Tryz.func9, Tryz.ntmps9
    go_wp2_with (first
      | (refine Rw.wpList_box rfl 25 _ rfl [.slice (some ⟨b, off, none⟩) n cap, .slice C n2 c] rfl ?_; intro w1 K1 b1 z1; have HZ1 := Lib.hid z1; have HB1 := Lib.hid b1; have HK1 := Lib.hid K1; clear z1 b1 K1)
      | (refine Rw.wpList_box rfl 41 _ rfl [.int .i64 kind, .int .i64 (j : Int), .string car, .int .i64 num, .int .i64 day, .int .i64 row, .int .u8 ltr, .string loc, .int .i64 pax] rfl ?_; intro w2 K2 b2 z2; have HB2 := Lib.hid (HB1.out.trans (b2.mono HB1.out.size)); have HK12 := Lib.hid (HK1.out.below' b2); have HK2 := Lib.hid K2; clear z2 b2 K2)
      | (have hgd := HK3; refine Rw.wpList_alloc rfl 35 rfl (Hd.encL ⟨⟨#[]⟩, 0, 0⟩) Hd.zLeg ?_; intro w4 K4 b4 z4; have HB4 := Lib.hid (HB3.out.trans (b4.mono HB3.out.size)); have HK4 := Lib.hid K4; have HK14 := Lib.hid (HK13.out.below' b4); have HK24 := Lib.hid (HK23.out.below' b4); have HK34 := Lib.hid (HK3.out.below' b4); have HB34 := Lib.hid b4; clear z4 b4 K4)
      | (refine Rw.wpList_alloc rfl 35 rfl (Hd.encL ⟨⟨#[]⟩, 0, 0⟩) Hd.zLeg ?_; intro w3 K3 b3 z3; have HB3 := Lib.hid (HB2.out.trans (b3.mono HB2.out.size)); have HK13 := Lib.hid (HK12.out.below' b3); have HK23 := Lib.hid (HK2.out.below' b3); have HK3 := Lib.hid K3; have hlt3 := K3.lt; have c2 : w3.cell? ⟨w1.heap.size, 2, none⟩ = some (.string car) := HK23.out.cell 2; have c3 : w3.cell? ⟨w1.heap.size, 3, none⟩ = some (.int .i64 num) := HK23.out.cell 3; have c4 : w3.cell? ⟨w1.heap.size, 4, none⟩ = some (.int .i64 day) := HK23.out.cell 4; clear z3 b3 K3)
      | (refine Rw.wpList_store_whole rfl 35 _ _ rfl w3.heap.size rfl (Hd.encL ⟨car, num, day⟩) rfl _ _ HK4.out Hd.iLeg rfl (Hd.encL_one _) ?_; intro w5 K5 f5; have HB35 : Hid (Below w3.heap.size w3 w5) := HB34.out.trans (f5.below HB34.out.size (fun k hk => Nat.le_of_eq hk.symm)); have HB5 := Lib.hid (HB3.out.trans (HB35.out.mono HB3.out.size)); have HK15 := Lib.hid (HK13.out.below' HB35.out); have HK25 := Lib.hid (HK23.out.below' HB35.out); have HK35 := Lib.hid (HK3.out.below' HB35.out); have HK5 := Lib.hid K5; have d1 : w5.cell? ⟨w1.heap.size, 1, none⟩ = some (.int .i64 (j : Int)) := HK25.out.cell 1; have e0 : w5.cell? ⟨w.heap.size, 0, none⟩ = some (.slice (some ⟨b, off, none⟩) n cap) := HK15.out.cell 0; have y0 : w5.cell? ⟨b, off + j * 9, none⟩ = some (.string kc) := (HB5.out.cell (p := ⟨b, _, none⟩) (show b < w.heap.size by omega)).trans E0.out; have y1 : w5.cell? ⟨b, off + j * 9 + 1, none⟩ = some (.int .i64 kn) := (HB5.out.cell (p := ⟨b, _, none⟩) (show b < w.heap.size by omega)).trans E1.out; clear c2 c3 c4 K5 f5)
      | (refine Rw.wpList_store_part rfl 33 _ _ rfl w3.heap.size rfl [.string kc, .int .i64 kn] rfl _ _ HK5.out Hd.iKey (by simp [Hd.encL]) Hd.one2 ?_; intro w6 K6 f6; have HB36 : Hid (Below w3.heap.size w3 w6) := HB35.out.trans (f6.below HB35.out.size (fun k hk => Nat.le_of_eq hk.symm)); have HB6 := Lib.hid (HB3.out.trans (HB36.out.mono HB3.out.size)); have HK36 := Lib.hid (HK3.out.below' HB36.out); have x0 : w6.cell? ⟨w3.heap.size, 0, none⟩ = some (.string kc) := K6.cell 0; have x1 : w6.cell? ⟨w3.heap.size, 1, none⟩ = some (.int .i64 kn) := K6.cell 1; have x2 : w6.cell? ⟨w3.heap.size, 2, none⟩ = some (.int .i64 day) := K6.cell 2; clear K6 f6)
      | (have hgd := HK36; refine Rw.wpList_store_whole rfl 35 _ _ rfl w2.heap.size rfl (Hd.encL ⟨kc, kn, day⟩) rfl _ _ HK36.out Hd.iLeg rfl (Hd.encL_one _) ?_; intro w7 K7 f7; have HB7 := Lib.hid (HB6.out.trans (f7.below (B := w.heap.size) HB6.out.size (fun k hk => by have h1 : k = w2.heap.size := hk; have h2 := HB2.out.size; omega)))))
    have hc7 := K7.cell
    refine bodyPost_ret (v := .agg #[.string kc, .int .i64 kn, .int .i64 day]) ?_ rfl ⟨by rw [HK.out], HB7.out⟩
    simp [results, Tryz.results9, go_sem, hc7, Hd.encL]

  · have HK := Lib.hid (HOut.out hin)
    clear HIn HOut HF
    generalize rs.length = n at *
    rcases (show fl < 0 ∨ (0 ≤ fl ∧ (n : Int) ≤ fl) by omega) with h0 | ⟨h0, h1⟩
    all_goals clear hin
    · go_enter Tryz.func9, Tryz.ntmps9
      go_wp2_with (first
        | (refine Rw.wpList_box rfl 25 _ rfl [.slice A n cap, .slice C n2 c] rfl ?_; intro w1 K1 b1 z1; have HZ1 := Lib.hid z1; have HB1 := Lib.hid b1; have HK1 := Lib.hid K1; clear z1 b1 K1)
        | (refine Rw.wpList_box rfl 41 _ rfl [.int .i64 kind, .int .i64 fl, .string car, .int .i64 num, .int .i64 day, .int .i64 row, .int .u8 ltr, .string loc, .int .i64 pax] rfl ?_; intro w2 K2 b2 z2; have HB2 := Lib.hid (HB1.out.trans (b2.mono HB1.out.size)); have HK12 := Lib.hid (HK1.out.below' b2); have HK2 := Lib.hid K2; clear z2 b2 K2)
        | (have hgd := HK3; refine Rw.wpList_alloc rfl 35 rfl (Hd.encL ⟨⟨#[]⟩, 0, 0⟩) Hd.zLeg ?_; intro w4 K4 b4 z4; have HB4 := Lib.hid (HB3.out.trans (b4.mono HB3.out.size)); have HK4 := Lib.hid K4; have HK14 := Lib.hid (HK13.out.below' b4); have HK24 := Lib.hid (HK23.out.below' b4); have HK34 := Lib.hid (HK3.out.below' b4); have HB34 := Lib.hid b4; clear z4 b4 K4)
        | (refine Rw.wpList_alloc rfl 35 rfl (Hd.encL ⟨⟨#[]⟩, 0, 0⟩) Hd.zLeg ?_; intro w3 K3 b3 z3; have HB3 := Lib.hid (HB2.out.trans (b3.mono HB2.out.size)); have HK13 := Lib.hid (HK12.out.below' b3); have HK23 := Lib.hid (HK2.out.below' b3); have HK3 := Lib.hid K3; have hlt3 := K3.lt; have c2 : w3.cell? ⟨w1.heap.size, 2, none⟩ = some (.string car) := HK23.out.cell 2; have c3 : w3.cell? ⟨w1.heap.size, 3, none⟩ = some (.int .i64 num) := HK23.out.cell 3; have c4 : w3.cell? ⟨w1.heap.size, 4, none⟩ = some (.int .i64 day) := HK23.out.cell 4; clear z3 b3 K3)
        | (refine Rw.wpList_store_whole rfl 35 _ _ rfl w3.heap.size rfl (Hd.encL ⟨car, num, day⟩) rfl _ _ HK4.out Hd.iLeg rfl (Hd.encL_one _) ?_; intro w5 K5 f5; have HB35 : Hid (Below w3.heap.size w3 w5) := HB34.out.trans (f5.below HB34.out.size (fun k hk => Nat.le_of_eq hk.symm)); have HB5 := Lib.hid (HB3.out.trans (HB35.out.mono HB3.out.size)); have HK15 := Lib.hid (HK13.out.below' HB35.out); have HK25 := Lib.hid (HK23.out.below' HB35.out); have HK35 := Lib.hid (HK3.out.below' HB35.out); have HK5 := Lib.hid K5; have d1 : w5.cell? ⟨w1.heap.size, 1, none⟩ = some (.int .i64 fl) := HK25.out.cell 1; have e0 : w5.cell? ⟨w.heap.size, 0, none⟩ = some (.slice A n cap) := HK15.out.cell 0; have x0 : w5.cell? ⟨w3.heap.size, 0, none⟩ = some (.string car) := HK5.out.cell 0; have x1 : w5.cell? ⟨w3.heap.size, 1, none⟩ = some (.int .i64 num) := HK5.out.cell 1; have x2 : w5.cell? ⟨w3.heap.size, 2, none⟩ = some (.int .i64 day) := HK5.out.cell 2; clear c2 c3 c4 K5 f5)
        | (have hgd := HK5; refine Rw.wpList_store_whole rfl 35 _ _ rfl w2.heap.size rfl (Hd.encL ⟨car, num, day⟩) rfl _ _ HK35.out Hd.iLeg rfl (Hd.encL_one _) ?_; intro w6 K6 f6; have HB6 := Lib.hid (HB5.out.trans (f6.below (B := w.heap.size) HB5.out.size (fun k hk => by have h1 : k = w2.heap.size := hk; have h2 := HB2.out.size; omega)))))
      have hc6 := K6.cell
      refine bodyPost_ret (v := .agg #[.string car, .int .i64 num, .int .i64 day]) ?_ rfl ⟨by rw [HK.out], HB6.out⟩
      simp [results, Tryz.results9, go_sem, hc6, Hd.encL]

    · go_enter Tryz.func9, Tryz.ntmps9
      go_wp2_with (first
        | (refine Rw.wpList_box rfl 25 _ rfl [.slice A n cap, .slice C n2 c] rfl ?_; intro w1 K1 b1 z1; have HZ1 := Lib.hid z1; have HB1 := Lib.hid b1; have HK1 := Lib.hid K1; clear z1 b1 K1)
        | (refine Rw.wpList_box rfl 41 _ rfl [.int .i64 kind, .int .i64 fl, .string car, .int .i64 num, .int .i64 day, .int .i64 row, .int .u8 ltr, .string loc, .int .i64 pax] rfl ?_; intro w2 K2 b2 z2; have HB2 := Lib.hid (HB1.out.trans (b2.mono HB1.out.size)); have HK12 := Lib.hid (HK1.out.below' b2); have HK2 := Lib.hid K2; clear z2 b2 K2)
        | (have hgd := HK3; refine Rw.wpList_alloc rfl 35 rfl (Hd.encL ⟨⟨#[]⟩, 0, 0⟩) Hd.zLeg ?_; intro w4 K4 b4 z4; have HB4 := Lib.hid (HB3.out.trans (b4.mono HB3.out.size)); have HK4 := Lib.hid K4; have HK14 := Lib.hid (HK13.out.below' b4); have HK24 := Lib.hid (HK23.out.below' b4); have HK34 := Lib.hid (HK3.out.below' b4); have HB34 := Lib.hid b4; clear z4 b4 K4)
        | (refine Rw.wpList_alloc rfl 35 rfl (Hd.encL ⟨⟨#[]⟩, 0, 0⟩) Hd.zLeg ?_; intro w3 K3 b3 z3; have HB3 := Lib.hid (HB2.out.trans (b3.mono HB2.out.size)); have HK13 := Lib.hid (HK12.out.below' b3); have HK23 := Lib.hid (HK2.out.below' b3); have HK3 := Lib.hid K3; have hlt3 := K3.lt; have c2 : w3.cell? ⟨w1.heap.size, 2, none⟩ = some (.string car) := HK23.out.cell 2; have c3 : w3.cell? ⟨w1.heap.size, 3, none⟩ = some (.int .i64 num) := HK23.out.cell 3; have c4 : w3.cell? ⟨w1.heap.size, 4, none⟩ = some (.int .i64 day) := HK23.out.cell 4; clear z3 b3 K3)
        | (refine Rw.wpList_store_whole rfl 35 _ _ rfl w3.heap.size rfl (Hd.encL ⟨car, num, day⟩) rfl _ _ HK4.out Hd.iLeg rfl (Hd.encL_one _) ?_; intro w5 K5 f5; have HB35 : Hid (Below w3.heap.size w3 w5) := HB34.out.trans (f5.below HB34.out.size (fun k hk => Nat.le_of_eq hk.symm)); have HB5 := Lib.hid (HB3.out.trans (HB35.out.mono HB3.out.size)); have HK15 := Lib.hid (HK13.out.below' HB35.out); have HK25 := Lib.hid (HK23.out.below' HB35.out); have HK35 := Lib.hid (HK3.out.below' HB35.out); have HK5 := Lib.hid K5; have d1 : w5.cell? ⟨w1.heap.size, 1, none⟩ = some (.int .i64 fl) := HK25.out.cell 1; have e0 : w5.cell? ⟨w.heap.size, 0, none⟩ = some (.slice A n cap) := HK15.out.cell 0; have x0 : w5.cell? ⟨w3.heap.size, 0, none⟩ = some (.string car) := HK5.out.cell 0; have x1 : w5.cell? ⟨w3.heap.size, 1, none⟩ = some (.int .i64 num) := HK5.out.cell 1; have x2 : w5.cell? ⟨w3.heap.size, 2, none⟩ = some (.int .i64 day) := HK5.out.cell 2; clear c2 c3 c4 K5 f5)
        | (have hgd := HK5; refine Rw.wpList_store_whole rfl 35 _ _ rfl w2.heap.size rfl (Hd.encL ⟨car, num, day⟩) rfl _ _ HK35.out Hd.iLeg rfl (Hd.encL_one _) ?_; intro w6 K6 f6; have HB6 := Lib.hid (HB5.out.trans (f6.below (B := w.heap.size) HB5.out.size (fun k hk => by have h1 : k = w2.heap.size := hk; have h2 := HB2.out.size; omega)))))
      have hc6 := K6.cell
      refine bodyPost_ret (v := .agg #[.string car, .int .i64 num, .int .i64 day]) ?_ rfl ⟨by rw [HK.out], HB6.out⟩
      simp [results, Tryz.results9, go_sem, hc6, Hd.encL]

end Go.Proofs.YtfodabbmjggieaaGreat
