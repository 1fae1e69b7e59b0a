/- Contracts of the document's joined, Flush and Lay. -/
import Derived.Test.YtngpdjkeoodigaaRefC
namespace Go.Proofs.Ytngpdjkeoodigaa
open Go.RowKit

namespace Dk
theorem i86s : (Try.prog.info? 86).map (·.size) = some 2 := by kernel_rfl
theorem run_append_none (A : Option Addr) (n c : Nat) (hn : n ≤ c) (ty : TypeId) (w : World) (hA : A ≠ none → ∃ g, A = some ⟨g, 0, none⟩) : (Builtin.append_ #[28, 28] ty #[.slice A n c, .slice none 0 0]).run Try.prog w = .ok (.slice A n c) w := by
  cases hq : Try.prog.info? 86 with
  | none => have := i86s; rw [hq] at this; cases this
  | some i =>
    cases A with
    | none => simp [Builtin.append_, run_underlying u28, sizeOf, typeInfo, hq, Builtin.lenOf, Builtin.firstCells, hn]
    | some x =>
      obtain ⟨g, hg⟩ := hA (by simp)
      simp [Builtin.append_, run_underlying u28, sizeOf, typeInfo, hq, Builtin.lenOf, Builtin.firstCells, hn, storeCells]
/-- append of a slice of the document's writes, nil or not. -/
theorem wpList_appendRW {w : World} {ops : Array Oper} {rest : List Oper} {o : Oper} {a : Act} {Q : Exit → Act → World → Prop} (hgd : o.guard = none) (s x : Operand) (hop : o.op = .call { callee := .builtin .append, args := #[s, x], argTypes := #[28, 28] })
    (base : Nat) (v : Value) (l : List (Int × List UInt8)) (hs : a.eval s = v) (hown : w.ownsRow base 86 2 v l.length (rflat l)) (u : Value) (m : List (Int × List UInt8)) (hx : a.eval x = u) (hm : RW w u m) (hl : l.length + m.length < 100000) (hb : base ≤ w.heap.size)
    (hK : ∀ v' w', w'.ownsRow base 86 2 v' (l ++ m).length (rflat (l ++ m)) → Below base w w' → wpList Try.prog ops Q rest (a.put o.dst v') w') : wpList Try.prog ops Q (o :: rest) a w := by
  rcases hm.2 with ⟨h1, h2⟩ | ⟨g, cap, cur, h1, h2⟩
  · have hm0 : m = [] := List.eq_nil_of_length_eq_zero h2
    subst hm0
    rw [h1] at hx
    have hrun : ∀ ty, (Builtin.append_ #[28, 28] ty #[v, .slice none 0 0]).run Try.prog w = .ok v w := fun ty => by
      rcases hown.2 with ⟨h3, h4⟩ | ⟨g, cap, cur, h3, _, _, h5, _⟩
      · rw [h3]; exact run_append_none none 0 0 (Nat.le_refl _) ty w (fun h => absurd rfl h)
      · rw [h3]; exact run_append_none _ _ _ h5 ty w (fun _ => ⟨g, rfl⟩)
    refine wpList_plain hgd fun K hK' => ?_
    unfold Oper.wp execOp
    simp only [hop, resolve, invoke, builtin, Sem.run_bind, Sem.run_pure, Result.andThen_ok, List.map_toArray, List.map_cons, List.map_nil, hs, hx, hrun]
    exact hK' _ _ (hK v w (by rw [List.append_nil]; exact hown) (Below.refl _ _))
  · rw [h1] at hx hm
    exact wpList_appendR hgd s x hop base v l hs hown g m.length cap m hx rfl (fun j y hy => by
      have := World.ownsRow.cells hm (g := g) rfl j y hy
      rwa [add_plain, Nat.zero_add] at this) hl hb hK
theorem RW.base {w : World} {base : Nat} {v : Value} {n : Nat} {l : List (Int × List UInt8)} (h : w.ownsRow base 86 2 v n (rflat l)) (hn : n = l.length) : RW w v l := by
  subst hn
  obtain ⟨h1, h2⟩ := h
  refine ⟨h1, ?_⟩
  rcases h2 with h2 | ⟨g, cap, cur, hv, hg, r⟩
  · exact .inl h2
  · exact .inr ⟨g, cap, cur, hv, Nat.zero_le _, r⟩
end Dk
theorem rjoined (w : World) (u v : Value) (l m : List (Int × List UInt8)) (hu : Dk.RW w u l) (hv : Dk.RW w v m) (hl : l.length + m.length < 90000) :
    Calls Try.prog 41 #[u, v] w fun e w' => ∃ A cap, e = .returned (.slice A (l.length + m.length) cap) ∧ Hid (Dk.RW w' (.slice A (l.length + m.length) cap) (l ++ m)) ∧ Below w.heap.size w w' := by
  have HU := Lib.hid hu
  have HV := Lib.hid hv
  clear hu hv
  go_enter Try.func41, Try.ntmps41
  go_wp2_with (first
    | (refine Dk.wpList_appendRW rfl _ _ rfl w.heap.size (.slice none 0 0) [] rfl (World.ownsRow_nil _ _ _ _) u l rfl HU.out (by simp; omega) (Nat.le_refl _) ?_; intro v1 w1 hO1 hb1; rw [List.nil_append] at hO1; have HO1 := Lib.hid hO1; clear hO1)
    | (refine Dk.wpList_appendRW rfl _ _ rfl w.heap.size v1 l rfl HO1.out v m rfl (HV.out.below hb1) (by omega) hb1.size ?_; intro v2 w2 hO2 hb2; have HO2 := Lib.hid (Dk.RW.base hO2 rfl); clear hO2; obtain ⟨A, cap, hsh⟩ := HO2.out.shape; rw [List.length_append] at hsh; subst hsh))
  go_ret
  exact ⟨A, cap, rfl, HO2, hb1.trans hb2⟩
namespace Dk
def R.flush (r : R) : R := if r.done = true then { r.next with safe := r.safe ++ r.wait, wait := [] } else r.next
def R.flushCode (r : R) : Int := if r.done = true then 0 else 3
theorem RW.fr30 {w w' : World} {v : Value} {l : List (Int × List UInt8)} {b : Nat} {cs : Array Value} {fr : Nat × Nat} (h : RW w v l) (hb : w.heap[b]? = some (.cells cs 30 fr)) (hf : Fr (· = b) w w') : RW w' v l := by
  have hlt := h.lt
  obtain ⟨h1, h2⟩ := h
  refine ⟨h1, ?_⟩
  rcases h2 with h2 | ⟨g, cap, cur, hv, hg, hh, r⟩
  · exact .inl h2
  · refine .inr ⟨g, cap, cur, hv, hg, ?_, r⟩
    rw [hf.block g (hlt g (by rw [hv]; rfl)).2 (fun e => by rw [e, hb] at hh; injection hh with hh; injection hh with _ hh; cases hh)]
    exact hh
theorem RW.set30 {w : World} {v : Value} {l : List (Int × List UInt8)} {b j : Nat} {u : Value} {cs : Array Value} {fr : Nat × Nat} (h : RW w v l) (hb : w.heap[b]? = some (.cells cs 30 fr)) : RW (w.setCell ⟨b, j, none⟩ u) v l := h.fr30 hb (Fr.setCell (F := (· = b)) w (p := ⟨b, j, none⟩) rfl u)
theorem rc_len (r : R) (sv wv : Value) : (rc r sv wv).length = 6 := rfl
end Dk
set_option maxHeartbeats 1000000 in
theorem rflush (w : World) (r : Dk.R) (sv wv : Value) (h : Dk.RR w r sv wv) (ha : 0 ≤ r.after ∧ r.after ≤ 9223372036854775807) :
    Calls Try.prog 28 #[Dk.rv r sv wv] w fun e w' => ∃ sv' wv', e = .returned (.tuple #[Dk.rv r.flush sv' wv', .int .i64 r.flushCode]) ∧ Hid (Dk.RR w' r.flush sv' wv') ∧ Below w.heap.size w w' := by
  have H := Lib.hid h
  have HA := Lib.hid ha
  clear h ha
  obtain ⟨e1, e2⟩ := Dk.next_rows r
  have HE := Lib.hid (And.intro e1 e2)
  clear e1 e2
  unfold Dk.R.flush Dk.R.flushCode
  cases hd : r.done with
  | false =>
    have HD := Lib.hid hd
    clear hd
    rw [if_neg (by simp), if_neg (by simp)]
    go_enter Try.func28, Try.ntmps28
    go_wp2_with (first
      | (refine Dk.wpList_box30 rfl _ rfl r sv wv rfl ?_; intro w1 hr1 hb1 hs1)
      | (refine Dk.wpList_alloc rfl 30 rfl _ (Dk.z30 _) ?_; intro w2 hg2 hb2 hs2; have R2 := Lib.hid (hr1.below hb2); have hb12 := hb1.trans (hb2.mono hb1.size))
      | (refine Dk.wpList_load30 rfl _ rfl w.heap.size rfl r sv wv R2.out ?_)
      | (go_at_call 40; refine (rnext _ r sv wv (H.out.fr rfl hb12) HA.out).mono ?_; rw [HD.out]; rintro e w3 ⟨rfl, hb3⟩; have R3 := Lib.hid (R2.out.below hb3); have G3 := Lib.hid ((hb3.block _ (Dk.lt_of_some hg2)).trans hg2); have hb123 := hb12.trans (hb3.mono hb12.size); clear R2)
      | (refine Dk.wpList_store30 rfl _ _ rfl w.heap.size rfl r.next sv wv rfl _ R3.out rfl ((H.out.fr rfl hb123).of HE.out.1 HE.out.2) ?_; intro w4 hr4 hf4; have R4 := Lib.hid hr4; have G4 := Lib.hid ((hf4.block _ (Dk.lt_of_some G3.out) (by omega)).trans G3.out); have hb4 := hb123.trans (hf4.below hb123.size (fun k hk => by omega)); clear R3 hr4)
      | (refine Dk.wpList_load30 rfl _ rfl w.heap.size rfl r.next sv wv R4.out ?_)
      | (refine Dk.wpList_store30 rfl _ _ rfl w1.heap.size rfl r.next sv wv rfl _ G4.out rfl ((H.out.fr rfl hb4).of HE.out.1 HE.out.2) ?_; intro w5 hr5 hf5))
    refine bodyPost_ret (Dk.res_cell_tmp rfl _ _ w1.heap.size r.next sv wv rfl hr5) rfl ?_
    have hb5 := hb4.trans (hf5.below hb4.size (fun k hk => by omega))
    exact ⟨sv, wv, rfl, (H.out.fr rfl hb5).of HE.out.1 HE.out.2, hb5⟩
  | true =>
    have HD := Lib.hid hd
    clear hd
    rw [if_pos rfl, if_pos rfl]
    go_enter Try.func28, Try.ntmps28
    go_wp2_with (first
      | (refine Dk.wpList_box30 rfl _ rfl r sv wv rfl ?_; intro w1 hr1 hb1 hs1)
      | (refine Dk.wpList_alloc rfl 30 rfl _ (Dk.z30 _) ?_; intro w2 hg2 hb2 hs2; have R2 := Lib.hid (hr1.below hb2); have hb12 := hb1.trans (hb2.mono hb1.size))
      | (refine Dk.wpList_load30 rfl _ rfl w.heap.size rfl r sv wv R2.out ?_)
      | (go_at_call 40; refine (rnext _ r sv wv (H.out.fr rfl hb12) HA.out).mono ?_; rw [HD.out]; rintro e w3 ⟨rfl, hb3⟩; have R3 := Lib.hid (R2.out.below hb3); have G3 := Lib.hid ((hb3.block _ (Dk.lt_of_some hg2)).trans hg2); have hb123 := hb12.trans (hb3.mono hb12.size); clear R2)
      | (refine Dk.wpList_store30 rfl _ _ rfl w.heap.size rfl r.next sv wv rfl _ R3.out rfl ((H.out.fr rfl hb123).of HE.out.1 HE.out.2) ?_; intro w4 hr4 hf4; have R4 := Lib.hid hr4; have c1 := R4.out.c1; have c2 := R4.out.c2; have G4 := Lib.hid ((hf4.block _ (Dk.lt_of_some G3.out) (by omega)).trans G3.out); have hb4 := hb123.trans (hf4.below hb123.size (fun k hk => by omega)); clear R3 hr4)
      | (go_at_call 41; refine (rjoined _ sv wv r.safe r.wait (H.out.fr rfl hb4).1 (H.out.fr rfl hb4).2.1 (by have := H.out.2.2; omega)).mono ?_; rintro e w5 ⟨A, cap, rfl, HJ, hb5⟩; have R5 := Lib.hid (R4.out.below hb5); have G5 := Lib.hid ((hb5.block _ (Dk.lt_of_some G4.out)).trans G4.out); have hb45 := hb4.trans (hb5.mono hb4.size); have k1 := R5.out.c1; have k2 := R5.out.c2; have f1 := R5.out.free 1; have f2 := R5.out.free 2; have R6 := Lib.hid (R5.out.set 1 (.slice A (r.safe.length + r.wait.length) cap) { r.next with safe := r.safe ++ r.wait } (.slice A (r.safe.length + r.wait.length) cap) wv rfl); have R7 := Lib.hid (R6.out.set 2 (.slice none 0 0) { r.next with safe := r.safe ++ r.wait, wait := [] } (.slice A (r.safe.length + r.wait.length) cap) (.slice none 0 0) rfl); have hb7 := (hb45.setCell (p := ⟨w.heap.size, 1, none⟩) (Nat.le_refl _) (.slice A (r.safe.length + r.wait.length) cap)).setCell (p := ⟨w.heap.size, 2, none⟩) (Nat.le_refl _) (.slice none 0 0); have HJ7 := Lib.hid ((HJ.out.set30 (j := 1) (u := .slice A (r.safe.length + r.wait.length) cap) R5.out).set30 (j := 2) (u := .slice none 0 0) R6.out); have HR7 : Hid (Dk.RR _ { r.next with safe := r.safe ++ r.wait, wait := [] } (.slice A (r.safe.length + r.wait.length) cap) (.slice none 0 0)) := ⟨HJ7.out, Dk.RW.nil _, by have := H.out.2.2; simp; omega⟩; have G7 := Lib.hid ((Below.heap_setCell (w5.setCell ⟨w.heap.size, 1, none⟩ (.slice A (r.safe.length + r.wait.length) cap)) ⟨w.heap.size, 2, none⟩ (.slice none 0 0) w1.heap.size (by show w1.heap.size ≠ w.heap.size; omega)).trans ((Below.heap_setCell w5 ⟨w.heap.size, 1, none⟩ (.slice A (r.safe.length + r.wait.length) cap) w1.heap.size (by show w1.heap.size ≠ w.heap.size; omega)).trans G5.out)); clear R4)
      | (refine Dk.wpList_load30 rfl _ rfl w.heap.size rfl { r.next with safe := r.safe ++ r.wait, wait := [] } (.slice A (r.safe.length + r.wait.length) cap) (.slice none 0 0) R7.out ?_)
      | (refine Dk.wpList_store30 rfl _ _ rfl w1.heap.size rfl { r.next with safe := r.safe ++ r.wait, wait := [] } (.slice A (r.safe.length + r.wait.length) cap) (.slice none 0 0) rfl _ G7.out rfl HR7.out ?_; intro w8 hr8 hf8))
    refine bodyPost_ret (Dk.res_cell_tmp rfl _ _ w1.heap.size { r.next with safe := r.safe ++ r.wait, wait := [] } (.slice A (r.safe.length + r.wait.length) cap) (.slice none 0 0) rfl hr8) rfl ?_
    have hb8 := hb7.trans (hf8.below hb7.size (fun k hk => by omega))
    exact ⟨_, _, rfl, ⟨HR7.out.1.fr30 G7.out hf8, Dk.RW.nil _, HR7.out.2.2⟩, hb8⟩
end Go.Proofs.Ytngpdjkeoodigaa
