/- Departures: the flights that fly and are wanted. -/
import Derived.Test.YtmcekicaigbccaaGreatFlRNew
namespace Go.Proofs.YtmcekicaigbccaaGreat
open Go.RowKit
set_option linter.unusedVariables false

theorem insertion_one (v f : Value) (n : Int) (w : World) (h0 : n ≤ 1) (h1 : 0 ≤ n) : Calls Tryz.prog 94 #[v, .int .i64 0, .int .i64 n, f] w fun e w' => e = .returned (.tuple #[]) ∧ w = w' := by
  go_enter Tryz.func94, Tryz.ntmps94
  go_wp2
  refine wp_loop_rounds 1 ?_
  rw [rounds_succ]
  go_wp2
  go_end0
  exact ⟨rfl, rfl⟩
theorem stable_one (A : Option Addr) (n cap : Nat) (f : Value) (w : World) (h0 : n ≤ 1) : Calls Tryz.prog 83 #[.slice A n cap, f] w fun e w' => e = .returned (.tuple #[]) ∧ w = w' := by
  have HI := Lib.hid (fun (w : World) => insertion_one (.slice A n cap) f n w (by omega) (by omega))
  have HS : Hid (∀ w : World, Calls Tryz.prog 117 #[.slice A n cap, .int .i64 n, f] w fun e w' => e = .returned (.tuple #[]) ∧ w = w') := fun w => by
    go_enter Tryz.func117, Tryz.ntmps117
    go_wp2
    refine wp_loop_rounds 1 ?_
    rw [rounds_succ]
    go_wp2_with (go_at_call 94; refine (HI.out _).mono ?_; rintro e w' ⟨rfl, rfl⟩)
    refine wp_loop_rounds 1 ?_
    rw [rounds_succ]
    go_wp2
    go_end0
    exact ⟨rfl, rfl⟩
  go_enter Tryz.func83, Tryz.ntmps83
  go_wp2_with (go_at_call 117; refine (HS.out _).mono ?_; rintro e w' ⟨rfl, rfl⟩)
  go_end0
  exact ⟨rfl, rfl⟩
namespace Fl
/-- Flights in a row of the call's own, their classes elsewhere. -/
structure Own2 (w : World) (b1 b2 : Nat) (v : Value) (rs : List R) : Prop where
  row : w.ownsRow b1 62 9 v rs.length (flat rs)
  cls : ∀ r ∈ rs, Cls w w.heap.size r.A r.f.cls
  wf : ∀ r ∈ rs, Wf r
theorem Own2.own {w : World} {base : Nat} {v : Value} {rs : List R} (h : Own w base v rs) : Own2 w base 0 v rs := ⟨h.row, fun r hr => (h.cls r hr).cls, h.wf⟩
theorem Own2.fls {w : World} {base b2 : Nat} {v : Value} {rs : List R} (h : Own2 w base b2 v rs) : ∃ A cap, v = .slice A rs.length cap ∧ Fls w w.heap.size A rs := by
  obtain ⟨_, ⟨hv, h0⟩ | ⟨g, cap, cur, hv, hg, hh, hcap, _, hsz, htk⟩⟩ := h.row
  · have := List.eq_nil_of_length_eq_zero h0
    subst this
    exact ⟨none, 0, hv, ⟨fun h => absurd h (by decide), by simp, by simp⟩⟩
  · refine ⟨some ⟨g, 0, none⟩, cap, hv, ⟨fun hl => ⟨g, 0, rfl, Rw.lt_of_some hh, fun j hj i x hx => ?_⟩, h.cls, h.wf⟩⟩
    have hi : i < 9 := by have := (List.getElem?_eq_some_iff.1 hx).1; rwa [enc_len] at this
    have hq := flat_get rs j hj i hi
    rw [← htk, List.getElem?_take_of_lt (by omega), hx] at hq
    rw [cell_of_row _ _ _ _ _ _ hh, show 0 + j * 9 + i = j * 9 + i by omega]
    simpa using hq
theorem Own2.below {w w' : World} {base b2 : Nat} {v : Value} {rs : List R} (h : Own2 w base b2 v rs) (hb : Below w.heap.size w w') : Own2 w' base b2 v rs where
  row := by
    obtain ⟨h1, h2 | ⟨g, cap, cur, hv, hg, hh, h3⟩⟩ := h.row
    · exact ⟨h1, .inl h2⟩
    · exact ⟨h1, .inr ⟨g, cap, cur, hv, hg, (hb.block g (Rw.lt_of_some hh)).trans hh, h3⟩⟩
  cls r hr := ((h.cls r hr).below hb (Nat.le_refl _)).more hb.size
  wf := h.wf
theorem Own2.nil {w : World} {base b2 : Nat} : Own2 w base b2 (.slice none 0 0) [] := ⟨⟨rfl, .inl ⟨rfl, rfl⟩⟩, by simp, by simp⟩
theorem wpList_appendF2 {w1 : World} {ops : Array Oper} {rest : List Oper} {o : Oper} {a : Act} {Q : Exit → Act → World → Prop} (hgd : o.guard = none) (s x : Operand)
    (ho : o.op = .call { callee := .builtin .append, args := #[s, x], argTypes := #[22, 22] })
    (base : Nat) (v : Value) (rs : List R) (r : R) (hown : Own2 w1 base 0 v rs) (hr : Cls w1 base r.A r.f.cls) (hwr : Wf r) (hcl : ∀ r ∈ rs, Cls w1 base r.A r.f.cls) (hs : a.eval s = v) (g : Nat) (hx : a.eval x = .slice (some ⟨g, 0, none⟩) 1 1) (hg : Rw.Blk w1 g 62 (enc r))
    (hlen : rs.length < 4000) (hbase : base ≤ w1.heap.size) (n : Nat) (hn : n = rs.length + 1)
    (h : ∀ A' cap' w', Hid (Own2 w' base 0 (.slice A' n cap') (rs ++ [r])) → Hid (Below base w1 w') → Hid (∀ q ∈ rs ++ [r], Cls w' base q.A q.f.cls) → wpList Tryz.prog ops Q rest (a.put o.dst (.slice A' n cap')) w') : wpList Tryz.prog ops Q (o :: rest) a w1 := by
  subst hn
  obtain ⟨i0, hi0, hz0, hz1, hz2⟩ := infoF'
  obtain ⟨v', w', hrun, hown', hgr, hnil, _⟩ := run_append_own_at (P := Tryz.prog) w1 base 22 o.type 62 i0 (.agg (enc r0).toArray) 9 112 Tryz.underlying22 hi0 hz0 hz1 hz2 rfl (by omega) v rs.length (flat rs) hown.row ⟨g, 0, none⟩ 1 1 (enc r) (by rw [enc_len]) (fun j u hu => by
    rw [Addr.add_mid, Nat.zero_add, hg.cell j]; exact hu) (enc_one r) (by unfold maxLen; omega) (by omega) hbase
  have hty : ∀ {k : Nat}, v.ownBlock = some k → base ≤ k := fun {k} hk => by
    obtain ⟨_, ⟨hv, h0⟩ | ⟨g, cap, cur, hv, hg, hh, _⟩⟩ := hown.row
    · rw [hv] at hk; cases hk
    · rw [hv] at hk
      simp only [Value.ownBlock, Option.some.injEq] at hk
      subst hk
      exact hg
  have hb : Below base w1 w' := ⟨hgr.os, hgr.tape, hgr.output, hgr.size, fun k hk => hgr.block k (by omega) (fun e => by have := hty e.symm; omega)⟩
  have hC : ∀ q ∈ rs ++ [r], Cls w' base q.A q.f.cls := fun q hq => by
    rcases List.mem_append.1 hq with hq | hq
    · exact (hcl q hq).below hb (Nat.le_refl _)
    · simp at hq; subst hq
      exact hr.below hb (Nat.le_refl _)
  have hO : Own2 w' base 0 v' (rs ++ [r]) := by
    refine ⟨by rw [List.length_append, flat_append, flat_one]; exact hown', fun q hq => (hC q hq).more (Nat.le_trans hbase hgr.size), fun q hq => ?_⟩
    rcases List.mem_append.1 hq with hq | hq
    · exact hown.wf q hq
    · simp at hq; subst hq; exact hwr
  obtain ⟨A', cap', hv, _⟩ := hO.fls
  rw [List.length_append] at hv
  simp only [List.length_cons, List.length_nil, Nat.zero_add] at hv
  refine wpList_plain hgd fun K hK' => ?_
  unfold Oper.wp execOp
  simp only [ho, resolve, invoke, builtin, Sem.run_bind, Sem.run_pure, Result.andThen_ok, List.map_toArray, List.map_cons, List.map_nil, hs, hx, hrun]
  rw [hv] at hO ⊢
  exact hK' _ _ (h A' cap' w' hO hb hC)
/-- Those that fly on a day and are wanted. -/
def dps (rs : List R) (day : Int) (c : R → Bool) : List R := rs.filter fun r => on r.f day && c r
theorem dps_take {rs : List R} {day : Int} {c : R → Bool} {k : Nat} (h : k < rs.length) : dps (rs.take (k + 1)) day c = dps (rs.take k) day c ++ (if on rs[k].f day && c rs[k] then [rs[k]] else []) := by
  unfold dps
  rw [List.take_succ_eq_append_getElem h, List.filter_append]
  cases h2 : (on rs[k].f day && c rs[k]) <;> simp [h2]
/-- What departures answers, where at most one comes. -/
def DepIs (w : World) (rs : List R) (day : Int) (c : R → Bool) (e : Ending) (w' : World) : Prop :=
  ∃ v, e = .returned v ∧ Own2 w' w.heap.size 0 v (dps rs day c) ∧ Below w.heap.size w w'
end Fl
end Go.Proofs.YtmcekicaigbccaaGreat
