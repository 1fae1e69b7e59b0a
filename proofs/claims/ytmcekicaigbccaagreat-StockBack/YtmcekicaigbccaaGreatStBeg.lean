/- begun and leg of the statements. -/
import Derived.Test.YtmcekicaigbccaaGreatStAwk
namespace Go.Proofs.YtmcekicaigbccaaGreat
open Go.RowKit Go.WideMaps
set_option linter.unusedVariables false

namespace St
/-- An act. -/
structure A where
  kind : Int
  fl : Int
  n : Int
  car : ByteArray
  num : Int
  day : Int
  cls : Int
instance : Inhabited A := ⟨⟨0, 0, 0, ⟨#[]⟩, 0, 0, 0⟩⟩
def acs (a : A) : List Value := [.int .i64 a.kind, .int .i64 a.fl, .int .i64 a.n, .string a.car, .int .i64 a.num, .int .i64 a.day, .int .u8 a.cls]
def av (a : A) : Value := .agg #[.int .i64 a.kind, .int .i64 a.fl, .int .i64 a.n, .string a.car, .int .i64 a.num, .int .i64 a.day, .int .u8 a.cls]
structure OkA (a : A) : Prop where
  k0 : -9223372036854775808 ≤ a.kind
  k1 : a.kind ≤ 9223372036854775807
  f0 : -9223372036854775808 ≤ a.fl
  f1 : a.fl ≤ 9223372036854775807
  n0 : -9223372036854775808 ≤ a.n
  n1 : a.n ≤ 9223372036854775807
  car : a.car.size ≤ 9223372036854775807
  m0 : -9223372036854775808 ≤ a.num
  m1 : a.num ≤ 9223372036854775807
  d0 : -9223372036854775808 ≤ a.day
  d1 : a.day ≤ 9223372036854775807
  c0 : 0 ≤ a.cls
  c1 : a.cls ≤ 255
/-- The class of the leg of an act. -/
def kOf (rs : List Fl.R) (a : A) : K := if h : 0 ≤ a.fl ∧ a.fl < rs.length then ⟨(rs[a.fl.toNat]'(by omega)).f.car, (rs[a.fl.toNat]'(by omega)).f.num, a.day, a.cls⟩ else ⟨a.car, a.num, a.day, a.cls⟩
theorem kOf_in {rs : List Fl.R} {a : A} {j : Nat} (hj : j < rs.length) (h : a.fl = j) : kOf rs a = ⟨rs[j].f.car, rs[j].f.num, a.day, a.cls⟩ := by
  unfold kOf
  rw [dif_pos (by omega)]
  have : a.fl.toNat = j := by omega
  simp [this]
theorem kOf_out {rs : List Fl.R} {a : A} (h : ¬ (0 ≤ a.fl ∧ a.fl < rs.length)) : kOf rs a = ⟨a.car, a.num, a.day, a.cls⟩ := by
  unfold kOf
  rw [dif_neg h]
theorem kOf_ok {rs : List Fl.R} {a : A} (ha : OkA a) (hw : ∀ r ∈ rs, Fl.Wf r) : OkK (kOf rs a) := by
  by_cases h : 0 ≤ a.fl ∧ a.fl < rs.length
  · have hj : a.fl.toNat < rs.length := by omega
    rw [kOf_in hj (by omega)]
    have := hw _ (List.getElem_mem hj)
    exact ⟨⟨this.car, this.n0, this.n1, ha.d0, ha.d1⟩, ha.c0, ha.c1⟩
  · rw [kOf_out h]
    exact ⟨⟨ha.car, ha.m0, ha.m1, ha.d0, ha.d1⟩, ha.c0, ha.c1⟩
theorem zLeg (w : World) : (zeroValue 34).run Tryz.prog w = .ok (.agg (encL ⟨⟨#[]⟩, 0, 0⟩).toArray) w := by kernel_rfl
theorem iLeg : (Tryz.prog.info? 34).map (·.size) = some 3 := by kernel_rfl
theorem key_one {c : ByteArray} {n : Int} : ∀ v ∈ ([.string c, .int .i64 n] : List Value), v.oneCell' = true := by
  intro v hv
  simp only [List.mem_cons, List.not_mem_nil, or_false] at hv
  rcases hv with rfl | rfl <;> rfl
theorem iKey : (Tryz.prog.info? 32).map (·.size) = some 2 := by kernel_rfl
end St
namespace Rw
section
variable {w : World} {ops : Array Oper} {rest : List Oper} {o : Oper} {a : Act} {Q : Exit → Act → World → Prop}
/-- A store of a part at the block's begin. -/
theorem wpList_store_part (hgd : o.guard = none) (t : TypeId) (x y : Operand) (hop : o.op = Op.store t x y) (g : Nat) (hx : a.eval x = .pointer (some ⟨g, 0, none⟩)) (cs : List Value) (hy : a.eval y = .agg cs.toArray)
    (cur : List Value) (e : TypeId) (hg : Blk w g e cur) (hi : (Tryz.prog.info? t).map (·.size) = some cs.length) (hfit : cs.length ≤ cur.length) (h1 : ∀ v ∈ cs, v.oneCell' = true)
    (hK : ∀ w', Blk w' g e (cs ++ cur.drop cs.length) → Fr (· = g) w w' → wpList Tryz.prog ops Q rest (a.put o.dst undef) w') : wpList Tryz.prog ops Q (o :: rest) a w := by
  refine wpList_plain hgd fun K hK' => ?_
  have hr := run_store_row (w := w) (off := 0) (t := t) hg cs hi (by simpa using hfit) h1
  unfold Oper.wp execOp
  simp only [hop, hx, hy, Sem.run_bind, hr, Sem.run_pure, Result.andThen_ok]
  refine hK' _ _ (hK _ ?_ (Fr.setRow w g _))
  unfold Blk
  rw [setRow_heap w g cur.toArray _ e (0, 0) hg]
  simp
end
end Rw
set_option maxHeartbeats 2000000 in
set_option maxRecDepth 20000 in
theorem leg_any (A : Option Addr) (rs : List Fl.R) (cap B : Nat) (a : St.A) (w : World) (h : Fl.Fls w B A rs) (hB : B ≤ w.heap.size) (hl : rs.length ≤ 1000000) (ha : St.OkA a) :
    Calls Tryz.prog 17 #[.slice A rs.length cap, St.av a] w fun e w' => e = .returned (.agg #[.string (St.kOf rs a).car, .int .i64 (St.kOf rs a).num, .int .i64 (St.kOf rs a).day]) ∧ Below w.heap.size w w' := by
  obtain ⟨w1, ew1⟩ : ∃ x, x = w.alloc (.cells (St.acs a).toArray 36) := ⟨_, rfl⟩
  have hb1 : Below w.heap.size w w1 := by rw [ew1]; exact (Below.refl _ _).alloc (Nat.le_refl _) _
  have hz1 : w.heap.size < w1.heap.size := by rw [ew1]; simp
  have hz1e : w1.heap.size = w.heap.size + 1 := by rw [ew1]; simp
  have K1 : Rw.Blk w1 w.heap.size 36 (St.acs a) := by rw [ew1]; exact heap_alloc_new w _
  have hf0 := ha.f0
  have hf1 := ha.f1
  have HIn := Lib.hid (fun j (hj : j < rs.length) (h : a.fl = j) => St.kOf_in (a := a) hj h)
  have HOut := Lib.hid (fun h => St.kOf_out (rs := rs) (a := a) h)
  generalize St.kOf rs a = k at *
  obtain ⟨kind, fl, n, car, num, day, cls⟩ := a
  unfold St.av
  unfold St.acs at ew1 K1
  simp only at hf0 hf1 HIn HOut ew1 K1 ⊢
  have HB1 := Lib.hid hb1
  have HF := Lib.hid h
  clear h ha hb1
  by_cases hin : 0 ≤ fl ∧ fl < rs.length
  · obtain ⟨h0, h1⟩ := hin
    obtain ⟨j, hj⟩ : ∃ j : Nat, fl = j := ⟨fl.toNat, by omega⟩
    have hjl : j < rs.length := by omega
    have HK := Lib.hid (HIn.out j hjl hj)
    obtain ⟨b, off, hA, hbB, hrow⟩ := HF.out.row (by omega)
    have hr0 := hrow j hjl
    subst hj hA
    obtain ⟨e0, e1⟩ := Fl.enc_cell hr0
    generalize rs[j].f.car = kc at *
    generalize rs[j].f.num = kn at *
    clear hrow hr0 HIn HOut HF
    have E0 := Lib.hid e0
    have E1 := Lib.hid e1
    clear e0 e1
    have HK1 := Lib.hid K1
    clear K1
    rw [ew1] at HB1 HK1 hz1e
    clear ew1
    go_enter Tryz.func17, Tryz.ntmps17
    go_wp2_with (first
      | (refine Rw.wpList_alloc rfl 34 rfl (St.encL ⟨⟨#[]⟩, 0, 0⟩) St.zLeg ?_; intro w3 K3 hb3 hz3; have hgd := HK22; have HK33 := Lib.hid K3; have HBq := Lib.hid hb3
         clear hz3 K3 hb3)
      | (refine Rw.wpList_alloc rfl 34 rfl (St.encL ⟨⟨#[]⟩, 0, 0⟩) St.zLeg ?_; intro w2 K2 hb2 hz2; have HK22 : Hid (Rw.Blk w2 (w.heap.size + 1) 34 (St.encL ⟨⟨#[]⟩, 0, 0⟩)) := (show Rw.Blk _ _ _ _ by rw [hz1e] at K2; exact K2); have HK12 := Lib.hid (HK1.out.below' hb2); have HB2 := Lib.hid (HB1.out.trans (hb2.mono HB1.out.size)); have c1 : w2.cell? ⟨w.heap.size, 1, none⟩ = some (.int .i64 (j : Int)) := HK12.out.cell 1; have c3 : w2.cell? ⟨w.heap.size, 3, none⟩ = some (.string car) := HK12.out.cell 3; have c4 : w2.cell? ⟨w.heap.size, 4, none⟩ = some (.int .i64 num) := HK12.out.cell 4; have c5 : w2.cell? ⟨w.heap.size, 5, none⟩ = some (.int .i64 day) := HK12.out.cell 5; have hlt2 : w.heap.size + 1 < w2.heap.size := HK22.out.lt; have hsz2 : w.heap.size ≤ w2.heap.size := by omega
         clear hz2 K2 hb2)
      | (refine Rw.wpList_store_whole rfl 34 _ _ rfl w2.heap.size rfl (St.encL ⟨car, num, day⟩) rfl _ _ HK33.out St.iLeg rfl (St.encL_one _) ?_; intro w4 K4 f4; have HK4 := Lib.hid K4; have HB24 : Hid (Below w2.heap.size w2 w4) := HBq.out.trans (f4.below HBq.out.size (fun k hk => Nat.le_of_eq hk.symm)); have HB4 := Lib.hid (HB2.out.trans (HB24.out.mono hsz2)); have HK14 := Lib.hid (HK12.out.below' HB24.out); have HK24 := Lib.hid (HK22.out.below' HB24.out); have d1 : w4.cell? ⟨w.heap.size, 1, none⟩ = some (.int .i64 (j : Int)) := HK14.out.cell 1; have s0 : w4.cell? ⟨w2.heap.size, 0, none⟩ = some (.string car) := HK4.out.cell 0; have s1 : w4.cell? ⟨w2.heap.size, 1, none⟩ = some (.int .i64 num) := HK4.out.cell 1; have s2 : w4.cell? ⟨w2.heap.size, 2, none⟩ = some (.int .i64 day) := HK4.out.cell 2; have x0 : w4.cell? ⟨b, off + j * 9, none⟩ = some (.string kc) := (HB4.out.cell (p := ⟨b, _, none⟩) (show b < w.heap.size by omega)).trans E0.out; have x1 : w4.cell? ⟨b, off + j * 9 + 1, none⟩ = some (.int .i64 kn) := (HB4.out.cell (p := ⟨b, _, none⟩) (show b < w.heap.size by omega)).trans E1.out
         clear K4 f4)
      | (refine Rw.wpList_store_part rfl 32 _ _ rfl w2.heap.size rfl [.string kc, .int .i64 kn] rfl _ _ HK4.out St.iKey (by simp [St.encL]) St.key_one ?_; intro w5 K5 f5; have HB45 : Hid (Below w2.heap.size w4 w5) := f5.below HB24.out.size (fun k hk => Nat.le_of_eq hk.symm); have HB5 := Lib.hid (HB4.out.trans (HB45.out.mono hsz2)); have HK25 := Lib.hid (HK24.out.below HB45.out hlt2); have s50 : w5.cell? ⟨w2.heap.size, 0, none⟩ = some (.string kc) := K5.cell 0; have s51 : w5.cell? ⟨w2.heap.size, 1, none⟩ = some (.int .i64 kn) := K5.cell 1; have s52 : w5.cell? ⟨w2.heap.size, 2, none⟩ = some (.int .i64 day) := K5.cell 2; clear K5 f5)
      | (refine Rw.wpList_store_whole rfl 34 _ _ rfl (w.heap.size + 1) rfl (St.encL ⟨kc, kn, day⟩) rfl _ _ HK25.out St.iLeg rfl (St.encL_one _) ?_; intro w6 K6 f6; have HB6 := Lib.hid (HB5.out.trans (f6.below (B := w.heap.size) HB5.out.size (fun k hk => by have : k = w.heap.size + 1 := hk; omega)))))
    have hc6 := K6.cell
    refine bodyPost_ret (v := .agg #[.string kc, .int .i64 kn, .int .i64 day]) ?_ rfl ⟨by rw [HK.out], HB6.out⟩
    simp [results, Tryz.results17, go_sem, hc6, St.encL]
  · have HK := Lib.hid (HOut.out hin)
    have HN : Hid (¬ (0 ≤ fl ∧ fl < rs.length)) := hin
    clear HIn HOut HF
    have HK1 := Lib.hid K1
    clear K1
    rw [ew1] at HB1 HK1 hz1e
    clear ew1
    rcases (show fl < 0 ∨ (0 ≤ fl ∧ (rs.length : Int) ≤ fl) by omega) with h0 | ⟨h0, h1⟩
    all_goals clear hin
    · go_enter Tryz.func17, Tryz.ntmps17
      go_wp2_with (first
        | (refine Rw.wpList_alloc rfl 34 rfl (St.encL ⟨⟨#[]⟩, 0, 0⟩) St.zLeg ?_; intro w3 K3 hb3 hz3; have hgd := HK22; have HK33 := Lib.hid K3; have HBq := Lib.hid hb3
           clear hz3 K3 hb3)
        | (refine Rw.wpList_alloc rfl 34 rfl (St.encL ⟨⟨#[]⟩, 0, 0⟩) St.zLeg ?_; intro w2 K2 hb2 hz2; have HK22 : Hid (Rw.Blk w2 (w.heap.size + 1) 34 (St.encL ⟨⟨#[]⟩, 0, 0⟩)) := (show Rw.Blk _ _ _ _ by rw [hz1e] at K2; exact K2); have HK12 := Lib.hid (HK1.out.below' hb2); have HB2 := Lib.hid (HB1.out.trans (hb2.mono HB1.out.size)); have c1 : w2.cell? ⟨w.heap.size, 1, none⟩ = some (.int .i64 fl) := HK12.out.cell 1; have c3 : w2.cell? ⟨w.heap.size, 3, none⟩ = some (.string car) := HK12.out.cell 3; have c4 : w2.cell? ⟨w.heap.size, 4, none⟩ = some (.int .i64 num) := HK12.out.cell 4; have c5 : w2.cell? ⟨w.heap.size, 5, none⟩ = some (.int .i64 day) := HK12.out.cell 5; have hlt2 : w.heap.size + 1 < w2.heap.size := HK22.out.lt; have hsz2 : w.heap.size ≤ w2.heap.size := by omega
           clear hz2 K2 hb2)
        | (refine Rw.wpList_store_whole rfl 34 _ _ rfl w2.heap.size rfl (St.encL ⟨car, num, day⟩) rfl _ _ HK33.out St.iLeg rfl (St.encL_one _) ?_; intro w4 K4 f4; have HK4 := Lib.hid K4; have HB24 : Hid (Below w2.heap.size w2 w4) := HBq.out.trans (f4.below HBq.out.size (fun k hk => Nat.le_of_eq hk.symm)); have HB4 := Lib.hid (HB2.out.trans (HB24.out.mono hsz2)); have HK14 := Lib.hid (HK12.out.below' HB24.out); have HK24 := Lib.hid (HK22.out.below' HB24.out); have d1 : w4.cell? ⟨w.heap.size, 1, none⟩ = some (.int .i64 fl) := HK14.out.cell 1; have s0 : w4.cell? ⟨w2.heap.size, 0, none⟩ = some (.string car) := HK4.out.cell 0; have s1 : w4.cell? ⟨w2.heap.size, 1, none⟩ = some (.int .i64 num) := HK4.out.cell 1; have s2 : w4.cell? ⟨w2.heap.size, 2, none⟩ = some (.int .i64 day) := HK4.out.cell 2
           clear K4 f4)
        | (refine Rw.wpList_store_whole rfl 34 _ _ rfl (w.heap.size + 1) rfl (St.encL ⟨car, num, day⟩) rfl _ _ HK24.out St.iLeg rfl (St.encL_one _) ?_; intro w6 K6 f6; have HB6 := Lib.hid (HB4.out.trans (f6.below (B := w.heap.size) HB4.out.size (fun k hk => by have : k = w.heap.size + 1 := hk; omega)))))
      have hc6 := K6.cell
      refine bodyPost_ret (v := .agg #[.string car, .int .i64 num, .int .i64 day]) ?_ rfl ⟨by rw [HK.out], HB6.out⟩
      simp [results, Tryz.results17, go_sem, hc6, St.encL]
    · go_enter Tryz.func17, Tryz.ntmps17
      go_wp2_with (first
        | (refine Rw.wpList_alloc rfl 34 rfl (St.encL ⟨⟨#[]⟩, 0, 0⟩) St.zLeg ?_; intro w3 K3 hb3 hz3; have hgd := HK22; have HK33 := Lib.hid K3; have HBq := Lib.hid hb3
           clear hz3 K3 hb3)
        | (refine Rw.wpList_alloc rfl 34 rfl (St.encL ⟨⟨#[]⟩, 0, 0⟩) St.zLeg ?_; intro w2 K2 hb2 hz2; have HK22 : Hid (Rw.Blk w2 (w.heap.size + 1) 34 (St.encL ⟨⟨#[]⟩, 0, 0⟩)) := (show Rw.Blk _ _ _ _ by rw [hz1e] at K2; exact K2); have HK12 := Lib.hid (HK1.out.below' hb2); have HB2 := Lib.hid (HB1.out.trans (hb2.mono HB1.out.size)); have c1 : w2.cell? ⟨w.heap.size, 1, none⟩ = some (.int .i64 fl) := HK12.out.cell 1; have c3 : w2.cell? ⟨w.heap.size, 3, none⟩ = some (.string car) := HK12.out.cell 3; have c4 : w2.cell? ⟨w.heap.size, 4, none⟩ = some (.int .i64 num) := HK12.out.cell 4; have c5 : w2.cell? ⟨w.heap.size, 5, none⟩ = some (.int .i64 day) := HK12.out.cell 5; have hlt2 : w.heap.size + 1 < w2.heap.size := HK22.out.lt; have hsz2 : w.heap.size ≤ w2.heap.size := by omega
           clear hz2 K2 hb2)
        | (refine Rw.wpList_store_whole rfl 34 _ _ rfl w2.heap.size rfl (St.encL ⟨car, num, day⟩) rfl _ _ HK33.out St.iLeg rfl (St.encL_one _) ?_; intro w4 K4 f4; have HK4 := Lib.hid K4; have HB24 : Hid (Below w2.heap.size w2 w4) := HBq.out.trans (f4.below HBq.out.size (fun k hk => Nat.le_of_eq hk.symm)); have HB4 := Lib.hid (HB2.out.trans (HB24.out.mono hsz2)); have HK14 := Lib.hid (HK12.out.below' HB24.out); have HK24 := Lib.hid (HK22.out.below' HB24.out); have d1 : w4.cell? ⟨w.heap.size, 1, none⟩ = some (.int .i64 fl) := HK14.out.cell 1; have s0 : w4.cell? ⟨w2.heap.size, 0, none⟩ = some (.string car) := HK4.out.cell 0; have s1 : w4.cell? ⟨w2.heap.size, 1, none⟩ = some (.int .i64 num) := HK4.out.cell 1; have s2 : w4.cell? ⟨w2.heap.size, 2, none⟩ = some (.int .i64 day) := HK4.out.cell 2
           clear K4 f4)
        | (refine Rw.wpList_store_whole rfl 34 _ _ rfl (w.heap.size + 1) rfl (St.encL ⟨car, num, day⟩) rfl _ _ HK24.out St.iLeg rfl (St.encL_one _) ?_; intro w6 K6 f6; have HB6 := Lib.hid (HB4.out.trans (f6.below (B := w.heap.size) HB4.out.size (fun k hk => by have : k = w.heap.size + 1 := hk; omega)))))
      have hc6 := K6.cell
      refine bodyPost_ret (v := .agg #[.string car, .int .i64 num, .int .i64 day]) ?_ rfl ⟨by rw [HK.out], HB6.out⟩
      simp [results, Tryz.results17, go_sem, hc6, St.encL]
end Go.Proofs.YtmcekicaigbccaaGreat
