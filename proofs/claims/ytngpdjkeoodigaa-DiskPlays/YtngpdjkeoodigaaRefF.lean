/- Contract of the document's Restart. -/
import Derived.Test.YtngpdjkeoodigaaRefE
namespace Go.Proofs.Ytngpdjkeoodigaa
open Go.RowKit

namespace Dk
def R.restart (r : R) (m : List Bool) : R := { n := r.n, safe := r.safe ++ kept r.wait m, wait := [], armed := false, down := false, after := 0 }
theorem kept_len : ∀ (l : List (Int × List UInt8)) (m : List Bool), (kept l m).length ≤ l.length
  | [], _ => by simp [kept]
  | _ :: _, [] => by simp [kept]
  | x :: r, b :: m => by
    have := kept_len r m
    cases b <;> simp [kept] <;> omega
theorem kept_take {l : List (Int × List UInt8)} {j : Nat} {x : Int × List UInt8} (m : List Bool) (hx : l[j]? = some x) : kept (l.take (j + 1)) m = kept (l.take j) m ++ (if m.getD j false then [x] else []) := by
  have hlt : j < l.length := (List.getElem?_eq_some_iff.1 hx).1
  rw [take_snoc l j x hx, kept_snoc, List.length_take, Nat.min_eq_left (by omega)]
theorem u86 : Try.prog.underlying 86 = some (((Try.prog.underlying 86).getD .bool)) := by kernel_rfl
theorem wpList_load86 {w : World} {ops : Array Oper} {rest : List Oper} {o : Oper} {a : Act} {Q : Exit → Act → World → Prop} (hg : o.guard = none) (x : Operand) (hop : o.op = Op.load 86 x) (g off : Nat) (hx : a.eval x = .pointer (some ⟨g, off, none⟩)) (i : Int) (d : List UInt8)
    (h0 : w.cell? ⟨g, off, none⟩ = some (.int .i64 i)) (h1 : w.cell? ⟨g, off + 1, none⟩ = some (str d)) (hK : wpList Try.prog ops Q rest (a.put o.dst (.agg #[.int .i64 i, .string ⟨d.toArray⟩])) w) : wpList Try.prog ops Q (o :: rest) a w :=
  wpList_load_mid hg 86 x hop g off hx [.int .i64 i, str d] _ (fun j v hv => by
    match j, hv with
    | 0, hv => injection hv with hv; subst hv; exact h0
    | 1, hv => injection hv with hv; subst hv; exact h1) u86 rfl i86s hK
theorem wp_store30 {w : World} {o : Oper} {a : Act} {Q : Exit → Act → World → Prop} {K : Act → World → Prop} (x y : Operand) (hop : o.op = Op.store 30 x y) (g : Nat) (hx : a.eval x = .pointer (some ⟨g, 0, none⟩)) (r : R) (sv wv : Value) (hy : a.eval y = rv r sv wv) (cs : List Value) (hg2 : w.heap[g]? = some (.cells cs.toArray 30 (0, 0))) (hcs : cs.length = 6) (h : RR w r sv wv)
    (hK : ∀ w', RB w' g r sv wv → Fr (· = g) w w' → K (a.put o.dst undef) w') : o.wp Try.prog a w K Q := by
  have hr := run_store_row (w := w) (off := 0) (t := 30) hg2 (rc r sv wv) i30 (by rw [List.size_toArray, hcs]; exact Nat.le_refl _) (one_rc h)
  have hy' : a.eval y = .agg (rc r sv wv).toArray := hy
  unfold Oper.wp execOp
  simp only [hop, hx, hy', Sem.run_bind, hr, Sem.run_pure, Result.andThen_ok]
  refine hK _ ?_ (Fr.setRow w g _)
  unfold RB
  rw [setRow_heap w g _ _ 30 (0, 0) hg2]
  simp [hcs, rc_len]
end Dk
set_option maxHeartbeats 2000000 in
theorem rrestart (w : World) (r : Dk.R) (sv wv : Value) (A' : Option Addr) (m : List Bool) (c' : Nat) (h : Dk.RR w r sv wv) (hB : Dk.Bls w (· < w.heap.size) A' m) (hml : m.length ≤ 9223372036854775807) :
    Calls Try.prog 31 #[Dk.rv r sv wv, .slice A' m.length c'] w fun e w' => ∃ sv' wv', e = .returned (Dk.rv (r.restart m) sv' wv') ∧ Hid (Dk.RR w' (r.restart m) sv' wv') ∧ Below w.heap.size w w' := by
  obtain ⟨Aw, capw, hwv⟩ := h.2.1.shape
  have H := Lib.hid h
  have HB := Lib.hid hB
  have HLn := Lib.hid h.2.2
  have hwl : r.wait.length < 50000 := by have := h.2.2; omega
  subst hwv
  clear h hB
  go_enter Try.func31, Try.ntmps31
  go_wp2_with (first
    | (refine Dk.wpList_box30 rfl _ rfl r sv (.slice Aw r.wait.length capw) rfl ?_; intro w1 hr1 hb1 hs1)
    | (refine Dk.wpList_alloc rfl 30 rfl _ (Dk.z30 _) ?_; intro w2 hg2 hb2 hs2))
  have R2 := Lib.hid (hr1.below hb2)
  have G2 := Lib.hid hg2
  have hb12 := hb1.trans (hb2.mono hb1.size)
  have hss : w.heap.size < w2.heap.size ∧ w1.heap.size < w2.heap.size := by omega
  clear hr1 hg2
  go_loopw [5, 6] (fun a i wr => ∃ (j : Nat), j ≤ r.wait.length ∧ i = .int .i64 j ∧ Hid (wr.ownsRow w2.heap.size 86 2 a (Dk.kept (r.wait.take j) m).length (Dk.rflat (Dk.kept (r.wait.take j) m))) ∧ Below w2.heap.size w2 wr) (fun _ i _ => r.wait.length - (intOf i).toNat)
  case atStart => exact ⟨0, by omega, rfl, World.ownsRow_nil _ _ _ _, Below.refl _ _⟩
  case round =>
    obtain ⟨j, hj, rfl, HO, hbj⟩ := hrel
    have RJ := Lib.hid (R2.out.kept (hbj.block _ hss.1))
    have GJ := Lib.hid ((hbj.block _ hss.2).trans G2.out)
    have hbw := hb12.trans (hbj.mono hb12.size)
    have c2 := RJ.out.c2
    have HRj := Lib.hid (H.out.fr rfl hbw)
    by_cases h1 : j < r.wait.length
    · obtain ⟨⟨xi, xd⟩, hx⟩ : ∃ x, r.wait[j]? = some x := ⟨_, List.getElem?_eq_getElem h1⟩
      obtain ⟨g, cap', hv, k0, k1⟩ := HRj.out.2.1.at j (xi, xd) hx
      injection hv with hA _ hC
      subst hA
      subst hC
      have HX := Lib.hid hx
      have K0 := Lib.hid k0
      have K1 := Lib.hid k1
      have hkl := Dk.kept_len (r.wait.take j) m
      have hkl2 : (r.wait.take j).length ≤ j := by simp; omega
      clear hx k0 k1
      by_cases hm : j < m.length
      · obtain ⟨mb, mo, rfl, hmG, hmc⟩ := HB.out (by omega)
        have hcm : wr.cell? ⟨mb, mo + j, none⟩ = some (.bool m[j]) := (hbw.cell (p := ⟨mb, mo + j, none⟩) hmG).trans (hmc j hm)
        clear hmc
        cases hkj : m[j] with
        | true =>
          have HE := Lib.hid (Dk.kept_take m HX.out)
          rw [show m.getD j false = true by simp [List.getD, hm, hkj], if_pos rfl] at HE
          rw [hkj] at hcm
          clear hkj
          go_wp2_with (first
            | (refine Dk.wpList_load86 rfl _ rfl g (j * 2) (by rfl) xi xd K0.out K1.out ?_)
            | (refine Dk.wpList_appendRW rfl _ _ rfl w2.heap.size u5 (Dk.kept (r.wait.take j) m) rfl (World.ownsRow.alloc HO.out _) _ [(xi, xd)] rfl (Dk.RW.one wr xi xd) (by simp; omega) (by have := hbj.size; simp; omega) ?_; intro v' w5 hO5 hb5; have HO5 := Lib.hid hO5; have hb5' := (hbj.alloc hbj.size _).trans hb5; clear hO5 hb5))
          go_roundw
          case rel => exact ⟨j + 1, by omega, by go_num, by rw [HE.out]; exact HO5, hb5'⟩
          case measure => simp [intOf]; omega
        | false =>
          have HE := Lib.hid (Dk.kept_take m HX.out)
          rw [show m.getD j false = false by simp [List.getD, hm, hkj]] at HE
          rw [hkj] at hcm
          clear hkj
          go_wp2
          go_roundw
          case rel => exact ⟨j + 1, by omega, by go_num, by have := HE.out; simp at this; rw [this]; exact HO, hbj⟩
          case measure => simp [intOf]; omega
      · have HE := Lib.hid (Dk.kept_take m HX.out)
        rw [show m.getD j false = false by simp [List.getD, hm]] at HE
        go_wp2
        go_roundw
        case rel => exact ⟨j + 1, by omega, by go_num, by have := HE.out; simp at this; rw [this]; exact HO, hbj⟩
        case measure => simp [intOf]; omega
    · have hje : j = r.wait.length := by omega
      subst hje
      have HO' : Hid (wr.ownsRow w2.heap.size 86 2 u5 (Dk.kept r.wait m).length (Dk.rflat (Dk.kept r.wait m))) := by have := HO.out; rw [List.take_length] at this; exact this
      have HRW := Lib.hid (Dk.RW.base HO'.out rfl)
      have hkl := Dk.kept_len r.wait m
      have hln := HLn.out
      clear HO HO'
      go_wp2_with (fail)
      have RJd : Dk.RB wr.drew w.heap.size r sv (.slice Aw r.wait.length capw) := RJ.out.kept rfl
      have s0 := RJd.c0
      have s1 := RJd.c1
      refine wp_region_noPanic ?_
      refine wp_region_held_drew (S := fun w' => w'.cell? ⟨w.heap.size, 0, none⟩ = some (.int .i64 r.n) ∧ w'.cell? ⟨w.heap.size, 1, none⟩ = some sv) (by kernel_rfl) ⟨s0, s1⟩ (fun hHeld => ?_)
      refine wpAnyH_take (i := 0) (oi := ⟨some 32, _, _, _, _, _⟩) (v := ?_) rfl (by kernel_rfl) (by kernel_rfl) (by kernel_rfl) (fun _ _ _ h => h) (Or.inl ⟨by rfl, ?_⟩) (by assumption) ?_
      rotate_left
      · (intro w hSw; (try dsimp only at hSw); go_simp <;> with_reducible rfl)
      try simp only [Act.put]
      try simp only [List.setIfInBounds_toArray]
      try simp only [List.set_cons_succ]
      try simp only [List.set_cons_zero]
      refine wpAnyH_take (i := 1) (oi := ⟨some 33, _, _, _, _, _⟩) (v := ?_) rfl (by kernel_rfl) (by kernel_rfl) (by kernel_rfl) (fun _ _ _ h => h) (Or.inl ⟨by rfl, ?_⟩) (by assumption) ?_
      rotate_left
      · (intro w hSw; (try dsimp only at hSw); go_simp <;> with_reducible rfl)
      try simp only [Act.put]
      try simp only [List.setIfInBounds_toArray]
      try simp only [List.set_cons_succ]
      try simp only [List.set_cons_zero]
      refine wpAnyH_take (i := 2) (oi := ⟨some 34, _, _, _, _, _⟩) (v := ?_) rfl (by kernel_rfl) (by kernel_rfl) (by kernel_rfl) (fun _ _ _ h => h) (Or.inl ⟨by rfl, ?_⟩) (by assumption) ?_
      rotate_left
      · (intro w hSw; (try dsimp only at hSw); go_simp <;> with_reducible rfl)
      try simp only [Act.put]
      try simp only [List.setIfInBounds_toArray]
      try simp only [List.set_cons_succ]
      try simp only [List.set_cons_zero]
      refine wpAnyH_take (i := 3) (oi := ⟨some 35, _, _, _, _, _⟩) (v := ?_) rfl (by kernel_rfl) (by kernel_rfl) (by kernel_rfl) (fun _ _ _ h => h) (Or.inl ⟨by rfl, ?_⟩) (by assumption) ?_
      rotate_left
      · (intro w hSw; (try dsimp only at hSw); go_simp <;> with_reducible rfl)
      try simp only [Act.put]
      try simp only [List.setIfInBounds_toArray]
      try simp only [List.set_cons_succ]
      try simp only [List.set_cons_zero]
      refine wpAnyH_take (i := 4) (oi := ⟨some 36, _, _, _, _, _⟩) (v := ?_) rfl (by kernel_rfl) (by kernel_rfl) (by kernel_rfl) (fun _ _ _ h => h) (Or.inl ⟨by rfl, ?_⟩) (by assumption) ?_
      rotate_left
      · (intro w hSw; (try dsimp only at hSw); go_simp <;> with_reducible rfl)
      try simp only [Act.put]
      try simp only [List.setIfInBounds_toArray]
      try simp only [List.set_cons_succ]
      try simp only [List.set_cons_zero]
      refine wpAnyH_ready (rs := [5]) (by kernel_rfl) (by simp) ?_
      refine AllReadyH.cons (o := ⟨some 37, _, _, _, _, _⟩) rfl (fun K hK => ?_) AllReadyH.nil
      go_simp
      go_at_call 41
      refine (rjoined _ sv u5 r.safe (Dk.kept r.wait m) (HRj.out.1.below ((Below.refl _ wr).drew)) (HRW.out.below ((Below.refl _ wr).drew)) (by omega)).mono ?_
      rintro e w5 ⟨A, cap, rfl, HJ, hb5⟩
      have hb5' : Below wr.heap.size wr w5 := (Below.refl _ wr).drew.trans hb5
      have R5 := Lib.hid (RJ.out.below hb5')
      have G5 := Lib.hid ((hb5'.block _ (Dk.lt_of_some GJ.out)).trans GJ.out)
      have hbw5 := hbw.trans (hb5'.mono hbw.size)
      go_wp2_with (fail)
      refine hK.out _ _ ?_ (fun hHeld2 => ?_)
      · exact ⟨R5.out.c0, R5.out.c1⟩
      clear hK K
      try simp only [Act.put]
      try simp only [List.setIfInBounds_toArray]
      try simp only [List.set_cons_succ]
      try simp only [List.set_cons_zero]
      refine wpAnyH_take (i := 6) (oi := ⟨some 38, _, _, _, _, _⟩) (v := ?_) rfl (by kernel_rfl) (by kernel_rfl) (by kernel_rfl) (fun _ _ _ h => h) (Or.inl ⟨by rfl, ?_⟩) (by assumption) ?_
      rotate_left
      · (intro w hSw; (try dsimp only at hSw); go_simp <;> with_reducible rfl)
      try simp only [Act.put]
      try simp only [List.setIfInBounds_toArray]
      try simp only [List.set_cons_succ]
      try simp only [List.set_cons_zero]
      refine wpAnyH_ready (rs := [7]) (by kernel_rfl) (by simp) ?_
      refine AllReadyH.cons (o := ⟨none, _, _, _, _, _⟩) rfl (fun K hK => ?_) AllReadyH.nil
      rw [if_pos (by rfl)]
      have HRR : Dk.RR w5 (r.restart m) (.slice A (r.safe.length + (Dk.kept r.wait m).length) cap) (.slice none 0 0) := ⟨HJ.out, Dk.RW.nil _, by show (r.safe ++ Dk.kept r.wait m).length + 0 < 50000; rw [List.length_append]; omega⟩
      refine Dk.wp_store30 _ _ rfl w1.heap.size rfl (r.restart m) (.slice A (r.safe.length + (Dk.kept r.wait m).length) cap) (.slice none 0 0) rfl _ G5.out rfl HRR ?_
      intro w6 hr6 hf6
      have hn1 : w.heap.size ≠ w1.heap.size := by omega
      have R6 := R5.out.kept (hf6.block _ R5.out.lt hn1)
      refine hK.out _ _ ?_ (fun hHeld3 => ?_)
      · exact ⟨R6.c0, R6.c1⟩
      clear hK K
      try simp only [Act.put]
      try simp only [List.setIfInBounds_toArray]
      try simp only [List.set_cons_succ]
      try simp only [List.set_cons_zero]
      refine wpAnyH_done (by kernel_rfl) ?_ _
      refine NoPanic.normal ?_
      go_wp2_with (fail)
      refine bodyPost_ret (Dk.res_cell rfl _ _ w1.heap.size (r.restart m) (.slice A (r.safe.length + (Dk.kept r.wait m).length) cap) (.slice none 0 0) rfl hr6) rfl ?_
      exact ⟨_, _, rfl, ⟨HRR.1.fr30 G5.out hf6, Dk.RW.nil _, HRR.2.2⟩, hbw5.trans (hf6.below hbw5.size (fun k hk => by omega))⟩
end Go.Proofs.Ytngpdjkeoodigaa
