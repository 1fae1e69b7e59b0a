/- Contract of line. -/
import Derived.Test.YtmcekicaigbccaaGreatStLegs
import Derived.Test.YtmcekicaigbccaaGreatFlDps
import Derived.Deep.RegionHeld3
namespace Go.Proofs.YtmcekicaigbccaaGreat
open Go.RowKit Go.WideMaps
set_option linter.unusedVariables false

namespace St
/-- A row of pairs of the call's own. -/
def OwnP (w : World) (base : Nat) (v : Value) (l : List (Int × Int)) : Prop := w.ownsRow base 118 2 v l.length (Fl.cc l)
theorem OwnP.below {w w' : World} {base : Nat} {v : Value} {l : List (Int × Int)} (h : OwnP w base v l) (hb : Below w.heap.size w w') : OwnP w' base v l := by
  obtain ⟨h1, h2 | ⟨g, cap, cur, hv, hg, hh, h3⟩⟩ := h
  · exact ⟨h1, .inl h2⟩
  · exact ⟨h1, .inr ⟨g, cap, cur, hv, hg, (hb.block g (Rw.lt_of_some hh)).trans hh, h3⟩⟩
theorem infoP : (Tryz.prog.info? 118).map (fun i => (i.zero, i.size, i.bytes)) = some (some (.agg (Fl.cc [(0, 0)]).toArray), 2, 16) := by kernel_rfl
theorem infoP' : ∃ i, Tryz.prog.info? 118 = some i ∧ i.zero = some (.agg (Fl.cc [(0, 0)]).toArray) ∧ i.size = 2 ∧ i.bytes = 16 := by
  obtain ⟨i, hi, h⟩ := Option.map_eq_some_iff.1 infoP
  simp only [Prod.mk.injEq] at h
  exact ⟨i, hi, h.1, h.2.1, h.2.2⟩
theorem cc_append (a b : List (Int × Int)) : Fl.cc (a ++ b) = Fl.cc a ++ Fl.cc b := by unfold Fl.cc; exact List.flatMap_append
theorem run_appendP {w : World} {base : Nat} {v : Value} {l : List (Int × Int)} (h : OwnP w base v l) (x : Int × Int) (g : Nat) (hg : Rw.Blk w g 118 [.int .u8 x.1, .int .i64 x.2]) (hlen : l.length < 100000) (hbase : base ≤ w.heap.size) (ty : TypeId) :
    ∃ A cap w', (Builtin.append_ #[83, 83] ty #[v, .slice (some ⟨g, 0, none⟩) 1 1]).run Tryz.prog w = .ok (.slice A (l.length + 1) cap) w' ∧ OwnP w' base (.slice A (l.length + 1) cap) (l ++ [x]) ∧ Below base w w' ∧ (∀ k, k < w.heap.size → (∀ cur, w.heap[k]? ≠ some (.cells cur 118 (0, 0))) → w'.heap[k]? = w.heap[k]?) := by
  obtain ⟨i0, hi0, hz0, hz1, hz2⟩ := infoP'
  obtain ⟨v', w', hrun, hown', hgr, hnil, _⟩ := run_append_own_at (P := Tryz.prog) w base 83 ty 118 i0 (.agg (Fl.cc [(0, 0)]).toArray) 2 16 Tryz.underlying83 hi0 hz0 hz1 hz2 rfl (by omega) v l.length (Fl.cc l) h ⟨g, 0, none⟩ 1 1 (Fl.cc [x]) (by rw [Fl.cc_len]; rfl) (fun j u hu => by
    rw [Addr.add_mid, Nat.zero_add, hg.cell j]; exact hu) (Fl.cc_one _) (by unfold maxLen; omega) (by omega) hbase
  have hty : ∀ {k : Nat}, v.ownBlock = some k → base ≤ k := fun {k} hk => by
    obtain ⟨_, ⟨hv, h0⟩ | ⟨g, cap, cur, hv, hg, hh, _⟩⟩ := h
    · rw [hv] at hk; cases hk
    · rw [hv] at hk
      simp only [Value.ownBlock, Option.some.injEq] at hk
      subst hk
      exact hg
  have hO : OwnP w' base v' (l ++ [x]) := by
    unfold OwnP
    rw [List.length_append, cc_append]
    exact hown'
  have hb : Below base w w' := ⟨hgr.os, hgr.tape, hgr.output, hgr.size, fun k hk => hgr.block k (by omega) (fun e => by have := hty e.symm; omega)⟩
  have hs : ∃ A cap, v' = .slice A (l.length + 1) cap := by
    obtain ⟨_, ⟨hv, h0⟩ | ⟨g, cap, cur, hv, _⟩⟩ := hO
    · simp at h0
    · exact ⟨_, _, by rw [hv, List.length_append]; rfl⟩
  obtain ⟨A, cap, rfl⟩ := hs
  refine ⟨A, cap, w', hrun, hO, hb, fun k hk hne => hgr.block k hk fun e => ?_⟩
  obtain ⟨_, ⟨hv, h0⟩ | ⟨g2, cap2, cur, hv, hg2, hh, _⟩⟩ := h
  · rw [hv] at e; cases e
  · rw [hv] at e
    simp only [Value.ownBlock, Option.some.injEq] at e
    subst e
    exact hne cur hh
section
variable {w : World} {o : Oper} {a : Act} {K : Act → World → Prop} {Q : Exit → Act → World → Prop}
theorem wp_appendP (s x : Operand) (ho : o.op = .call { callee := .builtin .append, args := #[s, x], argTypes := #[83, 83] })
    (base : Nat) (v : Value) (l : List (Int × Int)) (y : Int × Int) (hown : OwnP w base v l) (hs : a.eval s = v) (g : Nat) (hx : a.eval x = .slice (some ⟨g, 0, none⟩) 1 1) (hg : Rw.Blk w g 118 [.int .u8 y.1, .int .i64 y.2])
    (hlen : l.length < 100000) (hbase : base ≤ w.heap.size) (n : Nat) (hn : n = l.length + 1)
    (hK : ∀ A cap w', Hid (OwnP w' base (.slice A n cap) (l ++ [y])) → Hid (Below base w w') → Hid (∀ k, k < w.heap.size → (∀ cur, w.heap[k]? ≠ some (.cells cur 118 (0, 0))) → w'.heap[k]? = w.heap[k]?) → K (a.put o.dst (.slice A n cap)) w') : Oper.wp Tryz.prog o a w K Q := by
  subst hn
  obtain ⟨A, cap, w', hrun, hO, hb, hk⟩ := run_appendP hown y g hg hlen hbase o.type
  unfold Oper.wp execOp
  simp only [ho, resolve, invoke, builtin, Sem.run_bind, Sem.run_pure, Result.andThen_ok, List.map_toArray, List.map_cons, List.map_nil, hs, hx, hrun]
  exact hK A cap w' hO hb hk
end
/-- The three blocks that line keeps. -/
structure LnK (w : World) (g0 g1 g2 : Nat) (r : Fl.R) (cs ls : List Value) (wr : World) : Prop where
  f : Rw.Blk wr g0 62 (Fl.enc r)
  o : Rw.Blk wr g1 87 cs
  l : Rw.Blk wr g2 34 ls
  b : Below w.heap.size w wr
theorem LnK.below {w wr w' : World} {g0 g1 g2 : Nat} {r : Fl.R} {cs ls : List Value} (h : LnK w g0 g1 g2 r cs ls wr) (hb : Below wr.heap.size wr w') : LnK w g0 g1 g2 r cs ls w' :=
  ⟨h.f.below' hb, h.o.below' hb, h.l.below' hb, h.b.trans (hb.mono h.b.size)⟩
theorem blk_app {wr w' : World} {g : Nat} {t : TypeId} {c : List Value} (hB : Rw.Blk wr g t c) (ht : t ≠ 118) (hk : ∀ k, k < wr.heap.size → (∀ cur, wr.heap[k]? ≠ some (.cells cur 118 (0, 0))) → w'.heap[k]? = wr.heap[k]?) : Rw.Blk w' g t c :=
  hB.kept (hk g hB.lt (fun cur e => by
    unfold Rw.Blk at hB
    rw [hB] at e
    injection e with e
    injection e with _ e2 _
    exact ht e2))
theorem LnK.app {w wr w' : World} {g0 g1 g2 : Nat} {r : Fl.R} {cs ls : List Value} (h : LnK w g0 g1 g2 r cs ls wr) (hb : Below w.heap.size wr w') (hk : ∀ k, k < wr.heap.size → (∀ cur, wr.heap[k]? ≠ some (.cells cur 118 (0, 0))) → w'.heap[k]? = wr.heap[k]?) : LnK w g0 g1 g2 r cs ls w' := by
  exact ⟨blk_app h.f (by decide) hk, blk_app h.o (by decide) hk, blk_app h.l (by decide) hk, h.b.trans hb⟩
/-- A line's cells. -/
def lnc (r : Fl.R) (lk : Bool) (A : Option Addr) (n cap : Nat) : List Value := [.string r.f.car, .int .i64 r.f.num, .string r.f.frm, .string r.f.to, .int .i64 r.f.dep, .int .i64 r.f.arr, .bool lk, .slice A n cap]
def ln0 : List Value := [.string ⟨#[]⟩, .int .i64 0, .string ⟨#[]⟩, .string ⟨#[]⟩, .int .i64 0, .int .i64 0, .bool false, .slice none 0 0]
theorem zLn (w : World) : (zeroValue 87).run Tryz.prog w = .ok (.agg ln0.toArray) w := by kernel_rfl
theorem iLn : (Tryz.prog.info? 87).map (·.size) = some 8 := by kernel_rfl
theorem lnc_one (r : Fl.R) (lk : Bool) (A : Option Addr) (n cap : Nat) : ∀ v ∈ lnc r lk A n cap, v.oneCell' = true := by
  intro v hv
  simp only [lnc, List.mem_cons, List.not_mem_nil, or_false] at hv
  rcases hv with rfl | rfl | rfl | rfl | rfl | rfl | rfl | rfl <;> rfl
/-- What is left of each class, 9 of more. -/
def lfts (rs : List Fl.R) (l : List (K × Int)) (f : Fl.F) (day : Int) (cs : List (Int × Int)) : List (Int × Int) := cs.map fun c => (c.1, min (lvl rs ⟨f.car, f.num, day, c.1⟩ - sold l ⟨f.car, f.num, day, c.1⟩) 9)
def LineIs (w : World) (rs : List Fl.R) (l : List (K × Int)) (r : Fl.R) (day : Int) (lk : Bool) (e : Ending) (w' : World) : Prop :=
  ∃ A cap, e = .returned (.agg (lnc r lk A r.f.cls.length cap).toArray) ∧ OwnP w' w.heap.size (.slice A r.f.cls.length cap) (lfts rs l r.f day r.f.cls) ∧ Below w.heap.size w w'
end St
set_option maxHeartbeats 2000000 in
set_option maxRecDepth 20000 in
theorem line_any (Bt p t m : Nat) (rs : List Fl.R) (l : List (St.K × Int)) (r : Fl.R) (day : Int) (lk : Bool) (B : Nat) (w : World) (h : St.At w Bt p t m rs l) (hW : Fl.Wf r) (hC : Fl.Cls w B r.A r.f.cls) (hB : B ≤ w.heap.size) (hR : Fl.right r.f = true) (hd0 : -9223372036854775808 ≤ day) (hd1 : day ≤ 9223372036854775807) :
    Calls Tryz.prog 37 #[.pointer (some ⟨p, 0, none⟩), Fl.fv r, .int .i64 day, .bool lk] w (St.LineIs w rs l r day lk) := by
  obtain ⟨i0, hi0, hz0, hz1, hz2⟩ := St.infoP'
  have HI := Lib.hid hi0
  have HZ0 := Lib.hid hz0
  have HZ1 := Lib.hid hz1
  have HZ2 := Lib.hid hz2
  have HA := Lib.hid h
  have HWf := Lib.hid hW
  have HCl := Lib.hid hC
  have HLen : Hid (r.f.cls.length ≤ 6) := by
    show _ ≤ _
    unfold Fl.right Fl.clsOk at hR
    simp only [Bool.and_eq_true, decide_eq_true_eq] at hR
    exact hR.1.2.1.2
  have hlen6 := HLen.out
  clear hi0 hz0 hz1 hz2 h hW hC
  rw [← Fl.fv_enc]
  go_enter Tryz.func37, Tryz.ntmps37
  go_wp2_with (first
    | (refine Rw.wpList_box rfl 62 _ rfl (Fl.enc r) rfl ?_; intro w1 K1 hb1 hz1; have hlt1 : w.heap.size < w1.heap.size := by omega
       clear hz1)
    | (refine Rw.wpList_alloc rfl 87 rfl St.ln0 St.zLn ?_; intro w2 K2 hb2 hz2; have hlt2 : w1.heap.size < w2.heap.size := by omega
       clear hz2; have hlt02 : w.heap.size < w2.heap.size := Nat.lt_trans hlt1 hlt2; have b12 := hb1.trans (hb2.mono hb1.size); have K12 := Lib.hid (K1.below' hb2); obtain ⟨c0, c1, c2, c3, c4, c5, c6, c7, c8⟩ := Fl.encs K12.out; have HK2 := Lib.hid K2; clear K1 K2)
    | (refine wpList_make_own _ rfl _ _ 83 rfl w.heap.size 118 i0 _ 2 Tryz.underlying83 HI.out HZ0.out HZ1.out .i64 .i64 _ r.f.cls.length rfl rfl rfl (by rw [HZ2.out]; omega) (by unfold maxLen; omega) (Nat.le_trans b12.size (by simp)) ?_; intro w3 r3 g3
       have ba : Below w2.heap.size w2 (w2.alloc (.cells #[.string r.f.car, .int .i64 r.f.num, .int .i64 day] 34)) := (Below.refl _ _).alloc (Nat.le_refl _) _
       have bg : Below (w2.alloc (.cells #[.string r.f.car, .int .i64 r.f.num, .int .i64 day] 34)).heap.size (w2.alloc (.cells #[.string r.f.car, .int .i64 r.f.num, .int .i64 day] 34)) w3 := ⟨g3.os, g3.tape, g3.output, g3.size, fun k hk => g3.block k hk (by simp)⟩
       have b23 : Below w2.heap.size w2 w3 := ba.trans (bg.mono ba.size)
       have HK3 : Hid (St.LnK w w.heap.size w1.heap.size w2.heap.size r St.ln0 [.string r.f.car, .int .i64 r.f.num, .int .i64 day] w3) := ⟨K12.out.below' b23, HK2.out.below' b23, (show Rw.Blk (w2.alloc (.cells #[.string r.f.car, .int .i64 r.f.num, .int .i64 day] 34)) w2.heap.size 34 [.string r.f.car, .int .i64 r.f.num, .int .i64 day] from heap_alloc_new w2 _).below' bg, b12.trans (b23.mono b12.size)⟩
       have c73 : w3.cell? ⟨w.heap.size, 7, none⟩ = some (.slice r.A r.f.cls.length r.cap) := HK3.out.f.cell 7))
  have HO3 : Hid (St.OwnP w3 w.heap.size (.slice (some ⟨w2.heap.size + 1, 0, none⟩) 0 r.f.cls.length) []) := by
    have e : (w2.alloc (.cells #[.string r.f.car, .int .i64 r.f.num, .int .i64 day] 34)).heap.size = w2.heap.size + 1 := by simp
    rw [e] at r3
    exact r3
  obtain ⟨g1, hg1⟩ : ∃ g, g = w1.heap.size := ⟨_, rfl⟩
  obtain ⟨g2, hg2⟩ : ∃ g, g = w2.heap.size := ⟨_, rfl⟩
  rw [← hg1, ← hg2] at HK3
  rw [← hg2] at HO3
  rw [← hg1, ← hg2]
  have HOK : Hid (∀ j, j < r.f.cls.length → St.OkK ⟨r.f.car, r.f.num, day, Fl.lt r.f.cls j⟩) := fun j hj => by
    refine ⟨⟨HWf.out.car, HWf.out.n0, HWf.out.n1, hd0, hd1⟩, ?_, ?_⟩
    all_goals
      unfold Fl.right Fl.clsOk at hR
      simp only [Bool.and_eq_true, decide_eq_true_eq, List.all_eq_true, List.mem_range] at hR
      have := hR.1.2.2 j hj
      unfold Fl.cOk Cd.isL at this
      simp only [Bool.and_eq_true, decide_eq_true_eq] at this
      show _ ≤ _
      simp only
      omega
  have HTk : Hid (∀ k (hk : k < r.f.cls.length), St.lfts rs l r.f day (r.f.cls.take (k + 1)) = St.lfts rs l r.f day (r.f.cls.take k) ++ [(Fl.lt r.f.cls k, min (St.lvl rs ⟨r.f.car, r.f.num, day, Fl.lt r.f.cls k⟩ - St.sold l ⟨r.f.car, r.f.num, day, Fl.lt r.f.cls k⟩) 9)]) := fun k hk => by
    have e : Fl.lt r.f.cls k = r.f.cls[k].1 := by simp [Fl.lt, List.getD_eq_getElem?_getD, List.getElem?_eq_getElem hk]
    unfold St.lfts
    rw [List.take_succ_eq_append_getElem hk, List.map_append, e]
    rfl
  have HG : Hid (w.heap.size ≤ g1) := show _ ≤ _ by rw [hg1]; exact hb1.size
  clear r3 g3 ba bg b23 K12 HK2 c0 c1 c2 c3 c4 c5 c6 c7 c8 c73 hb1 hb2 b12 hlt1 hlt2 hlt02 hg1 hg2 hR
  go_loopw [10, 24] (fun v i wr => ∃ (k : Nat) (A' : Option Addr) (cap' : Nat), k ≤ r.f.cls.length ∧ i = .int .i64 k ∧ v = .slice A' k cap' ∧ Hid (St.OwnP wr w.heap.size (.slice A' k cap') (St.lfts rs l r.f day (r.f.cls.take k))) ∧ Hid (St.LnK w w.heap.size g1 g2 r St.ln0 [.string r.f.car, .int .i64 r.f.num, .int .i64 day] wr)) (fun _ i _ => r.f.cls.length - (intOf i).toNat)
  case atStart => exact ⟨0, _, _, by omega, rfl, rfl, HO3.out, HK3.out⟩
  case round =>
    obtain ⟨wx, ewx⟩ : ∃ x, x = wr := ⟨_, rfl⟩
    subst ewx
    obtain ⟨k, A', cap', hk, rfl, rfl, HO, HK⟩ := hrel
    by_cases hlt : k < r.f.cls.length
    · have hbx := HK.out.b.size
      obtain ⟨b, off, hA, hbB, hcs⟩ := (HCl.out.below HK.out.b hB).at (by omega)
      obtain ⟨x0, x1⟩ := hcs k hlt
      have HTk2 := Lib.hid (HTk.out k hlt)
      have hok := HOK.out k hlt
      have HLf := Lib.hid (fun W (hb : Below w.heap.size w W) => sleft_any Bt p t m rs l ⟨r.f.car, r.f.num, day, Fl.lt r.f.cls k⟩ W (HA.out.fr (Rw.Fr.of_below (F := fun _ => False) hb) (fun _ e => e.elim) id id) hok)
      have hbd := HA.out.bound ⟨r.f.car, r.f.num, day, Fl.lt r.f.cls k⟩
      obtain ⟨d2, hd2⟩ : ∃ d, d = St.lfts rs l r.f day (r.f.cls.take (k + 1)) := ⟨_, rfl⟩
      rw [← hd2] at HTk2
      have HD2 := Lib.hid hd2
      have HLn : Hid ((St.lfts rs l r.f day (r.f.cls.take k)).length = k) := show _ = _ by simp [St.lfts, Nat.min_eq_left hk]
      generalize St.lfts rs l r.f day (r.f.cls.take k) = d1 at *
      generalize St.lvl rs ⟨r.f.car, r.f.num, day, Fl.lt r.f.cls k⟩ = lv at *
      generalize St.sold l ⟨r.f.car, r.f.num, day, Fl.lt r.f.cls k⟩ = so at *
      simp only at HLf
      generalize Fl.lt r.f.cls k = lt at *
      generalize Fl.lv r.f.cls k = lvv at *
      rw [hA]
      obtain ⟨w4, ew4⟩ : ∃ y, y = wx.alloc (.cells #[.int .u8 lt, .int .i64 lvv] 59) := ⟨_, rfl⟩
      have hb4 : Below wx.heap.size wx w4 := by rw [ew4]; exact (Below.refl _ _).alloc (Nat.le_refl _) _
      have hz4 : wx.heap.size < w4.heap.size := by rw [ew4]; simp
      have K4 : Rw.Blk w4 wx.heap.size 59 [.int .u8 lt, .int .i64 lvv] := by rw [ew4]; exact heap_alloc_new wx _
      have HK4 : Hid (St.LnK w w.heap.size g1 g2 r St.ln0 [.string r.f.car, .int .i64 r.f.num, .int .i64 day] w4) := HK.out.below hb4
      have HO4 := Lib.hid (HO.out.below hb4)
      have hb4x := HK4.out.b.size
      have HS : Hid (∀ w', Below w4.heap.size w4 w' → w'.cell? ⟨wx.heap.size, 0, none⟩ = some (.int .u8 lt) ∧ w'.cell? ⟨g2, 0, none⟩ = some (.string r.f.car) ∧ w'.cell? ⟨g2, 1, none⟩ = some (.int .i64 r.f.num) ∧ w'.cell? ⟨g2, 2, none⟩ = some (.int .i64 day)) := fun w' hb => by
        have k1 := K4.below' hb
        have k2 := (HK4.out.below hb).l
        exact ⟨k1.cell 0, k2.cell 0, k2.cell 1, k2.cell 2⟩
      have HKc := Lib.hid K4
      clear hcs hok hd2 HO HK K4 hA hb4
      go_wp2
      rw [← ew4]
      clear ew4
      go_region_held3 (fun w' => w'.cell? ⟨wx.heap.size, 0, none⟩ = some (.int .u8 lt) ∧ w'.cell? ⟨g2, 0, none⟩ = some (.string r.f.car) ∧ w'.cell? ⟨g2, 1, none⟩ = some (.int .i64 r.f.num) ∧ w'.cell? ⟨g2, 2, none⟩ = some (.int .i64 day)) (first | exact HS7 | exact HS.out _ (Below.refl _ _) | exact HS.out _ (Below.refl _ _).drew | exact HS.out _ ((Below.refl _ _).drew.trans hb5) | exact HS.out _ (((Below.refl _ _).drew.trans hb5).trans (((Below.refl _ _).alloc (Nat.le_refl _) _).mono hb5.size))) (first
        | (go_at_call 22; refine (HLf.out _ HK4.out.b.drew).mono ?_; rintro e w5 ⟨rfl, hb5⟩)
        | (have hb5d : Below w4.heap.size w4 w5 := (Below.refl _ _).drew.trans hb5; have hb6 : Below w5.heap.size w5 (w5.alloc (.cells #[.int .u8 lt, .int .i64 (min (lv - so) 9)] 118)) := (Below.refl _ _).alloc (Nat.le_refl _) _; refine St.wp_appendP (.tmp 28) (.tmp 38) rfl w.heap.size (.slice A' k cap') d1 (lt, min (lv - so) 9) ((HO4.out.below hb5d).below hb6) rfl w5.heap.size rfl (heap_alloc_new w5 _) (by rw [HLn.out]; omega) (Nat.le_trans hb4x (Nat.le_trans hb5d.size hb6.size)) (k + 1) (by rw [HLn.out]) ?_; intro A7 c7' w7 HO7 HB7 HT7; have HK6 := (HK4.out.below hb5d).below hb6; have HK7 : Hid (St.LnK w w.heap.size g1 g2 r St.ln0 [.string r.f.car, .int .i64 r.f.num, .int .i64 day] w7) := HK6.app HB7.out HT7.out; have KC7 : Rw.Blk w7 wx.heap.size 59 [.int .u8 lt, .int .i64 lvv] := St.blk_app ((HKc.out.below' hb5d).below' hb6) (by decide) HT7.out; have HS7 : w7.cell? ⟨wx.heap.size, 0, none⟩ = some (.int .u8 lt) ∧ w7.cell? ⟨g2, 0, none⟩ = some (.string r.f.car) ∧ w7.cell? ⟨g2, 1, none⟩ = some (.int .i64 r.f.num) ∧ w7.cell? ⟨g2, 2, none⟩ = some (.int .i64 day) := ⟨KC7.cell 0, HK7.out.l.cell 0, HK7.out.l.cell 1, HK7.out.l.cell 2⟩; clear HK6 KC7))
      go_wp2
      go_roundw
      case rel => exact ⟨k + 1, A7, c7', by omega, by go_num, rfl, (show St.OwnP _ _ _ _ by rw [← HD2.out, HTk2.out]; exact HO7.out), HK7.out⟩
      case measure => simp [intOf]; omega
    · have hkn : k = r.f.cls.length := by omega
      rw [List.take_of_length_le (by omega)] at HO
      subst hkn
      have HKf := Lib.hid HK.out.f
      have HKo := Lib.hid HK.out.o
      obtain ⟨c0, c1, c2, c3, c4, c5, c6, c7, c8⟩ := Fl.encs HK.out.f
      go_wp2_with (first
        | (refine Rw.wpList_store_whole rfl 87 _ _ rfl g1 rfl (St.lnc r lk A' r.f.cls.length cap') rfl _ _ HKo.out St.iLn rfl (St.lnc_one _ _ _ _ _) ?_; intro w5 K5 f5))
      have hc5 := K5.cell
      have HO5 : St.OwnP w5 w.heap.size (.slice A' r.f.cls.length cap') (St.lfts rs l r.f day r.f.cls) := by
        obtain ⟨q1, q2 | ⟨g, cap2, cur, hv, hg, hh, q3⟩⟩ := HO.out
        · exact ⟨q1, .inl q2⟩
        · refine ⟨q1, .inr ⟨g, cap2, cur, hv, hg, (f5.block g (Rw.lt_of_some hh) (fun e => ?_)).trans hh, q3⟩⟩
          have e : g = g1 := e
          have := HKo.out
          unfold Rw.Blk at this
          rw [← e, hh] at this
          injection this with this
          injection this with _ e2 _
          exact absurd e2 (by decide)
      have hg1 : w.heap.size ≤ g1 := HG.out
      have hb5 : Below w.heap.size w w5 := HK.out.b.trans (f5.below HK.out.b.size (fun k hk => by have : k = g1 := hk; omega))
      refine bodyPost_ret (v := .agg (St.lnc r lk A' r.f.cls.length cap').toArray) ?_ rfl ⟨A', cap', rfl, HO5, hb5⟩
      simp [results, Tryz.results37, go_sem, hc5, St.lnc]
end Go.Proofs.YtmcekicaigbccaaGreat
