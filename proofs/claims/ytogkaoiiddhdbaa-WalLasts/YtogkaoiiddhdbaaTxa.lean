/- Texts appended to texts of the call's own. -/
import Derived.Test.YtogkaoiiddhdbaaBga
import Derived.Laws.AppendOwnNone
namespace Go.Proofs.Ytogkaoiiddhdbaa
open Go.RowKit
set_option linter.unusedVariables false

namespace Wl
/-- A new row of no texts. -/
theorem OwnT.lit0 (w : World) {base : Nat} (hb : base ≤ w.heap.size) : OwnT (w.alloc (.cells #[] 9)) base (.slice (some ⟨w.heap.size, 0, none⟩) 0 0) [] :=
  ⟨rfl, .inr ⟨w.heap.size, 0, #[], rfl, hb, heap_alloc_new w _, Nat.le_refl _, by unfold maxLen; omega, rfl, rfl⟩⟩
/-- append(texts, more...). -/
theorem wp_appendU {w1 : World} {o : Oper} {a : Act} {Q : Exit → Act → World → Prop} {K : Act → World → Prop} (s x : Operand) (hop : o.op = .call { callee := .builtin .append, args := #[s, x], argTypes := #[35, 35] })
    (base : Nat) (v : Value) (ts us : List (List UInt8)) (hown : OwnT w1 base v ts) (hs : a.eval s = v) (hbase : base ≤ w1.heap.size) (A : Option Addr) (n c : Nat) (G : Nat → Prop) (hT : Txt w1 G A us) (hn : n = us.length) (hx : a.eval x = .slice A n c) (hA : A = none → n = 0 ∧ c = 0) (hlen : ts.length + us.length ≤ 1000000)
    (hK : ∀ v' w', Hid (OwnT w' base v' (ts ++ us)) → Below base w1 w' → K (a.put o.dst v') w') : o.wp Try.prog a w1 K Q := by
  subst hn
  obtain ⟨i0, hi0, hz0, hz1, hz2⟩ := info_parts s9_info
  cases A with
  | none =>
    obtain ⟨h0, hc0⟩ := hA rfl
    subst hc0
    have hu : us = [] := List.eq_nil_of_length_eq_zero h0
    subst hu
    have hrun := run_append_owned_none (P := Try.prog) (w := w1) base 35 o.type 9 i0 1 u35 hi0 v ts.length (ts.map strV) hown
    unfold Oper.wp execOp
    simp only [hop, resolve, invoke, builtin, Sem.run_bind, Sem.run_pure, Result.andThen_ok, List.map_toArray, List.map_cons, List.map_nil, hs, hx, List.length_nil, hrun]
    exact hK v w1 (by rw [List.append_nil]; exact hown) (Below.refl _ _)
  | some ad =>
    obtain ⟨v', w', hrun, hown', hgr, _, _⟩ := run_append_own_at (P := Try.prog) w1 base 35 o.type 9 i0 (.string ⟨#[]⟩) 1 16 u35 hi0 hz0 hz1 hz2 rfl (by omega) v ts.length (ts.map strV) hown ad us.length c (us.map strV) (by simp) (fun j u hu => by
      have hj : j < us.length := by
        have := (List.getElem?_eq_some_iff.1 hu).1
        simpa using this
      obtain ⟨b, off, e, _, hc⟩ := hT (by omega)
      have e2 := Option.some.inj e
      rw [e2, Dk.add_plain, hc j hj]
      rw [List.getElem?_map, List.getElem?_eq_getElem hj] at hu
      exact hu) (by intro u hu; obtain ⟨l, _, rfl⟩ := List.mem_map.1 hu; rfl) (by unfold maxLen; omega) (by omega) hbase
    unfold Oper.wp execOp
    simp only [hop, resolve, invoke, builtin, Sem.run_bind, Sem.run_pure, Result.andThen_ok, List.map_toArray, List.map_cons, List.map_nil, hs, hx, hrun]
    refine hK v' w' ?_ ((Below.refl _ _).grown hgr hbase (fun k hk => (hown.own k hk).1))
    show OwnT w' base v' (ts ++ us)
    unfold OwnT
    simpa using hown'
theorem OwnT.none_len {w : World} {base n c : Nat} {A : Option Addr} {ts : List (List UInt8)} (h : OwnT w base (.slice A n c) ts) : A = none → n = 0 ∧ c = 0 := fun e => by
  subst e
  rcases h.2 with ⟨hv, _⟩ | ⟨g, cap, cur, hv, _⟩
  · injection hv with _ h1 h2; exact ⟨h1, h2⟩
  · injection hv with h1; cases h1
theorem txt_lit (w : World) (l : List UInt8) : Txt (w.alloc (.cells #[.string ⟨l.toArray⟩] 9)) (· = w.heap.size) (some ⟨w.heap.size, 0, none⟩) [l] := fun _ =>
  ⟨w.heap.size, 0, rfl, rfl, fun j hj => by
    have hj0 : j = 0 := by simpa using hj
    subst hj0
    rw [cell_of_row _ _ _ _ _ _ (heap_alloc_new w _)]
    rfl⟩
end Wl
end Go.Proofs.Ytogkaoiiddhdbaa
