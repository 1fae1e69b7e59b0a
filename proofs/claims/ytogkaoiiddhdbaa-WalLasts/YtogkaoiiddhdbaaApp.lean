/- Contract of Append. -/
import Derived.Test.YtogkaoiiddhdbaaRen
import Derived.Deep.RegionLaw
import Derived.StillTailTactics
namespace Go.Proofs.Ytogkaoiiddhdbaa
open Go.RowKit

namespace Wl
/-- append(rows, x) at an operation of a region that draws; x is new since base. -/
theorem wp_appendR {w1 : World} {o : Oper} {a : Act} {Q : Exit → Act → World → Prop} {K : Act → World → Prop} (s x : Operand) (hop : o.op = .call { callee := .builtin .append, args := #[s, x], argTypes := #[48, 48] })
    (R : Nat → Prop) (v : Value) (ps : List (List UInt8)) (hR : RwsR w1 R v ps) (hs : a.eval s = v) (base : Nat) (hRb : ∀ k, R k → k < base) (hbase : base ≤ w1.heap.size) (A : Option Addr) (l : List UInt8) (n c g : Nat) (hB : Dk.Bts w1 (fun k => base ≤ k) A l) (hn : n = l.length) (hc : A = none → c = 0) (hlc : l.length ≤ c) (hg : g = w1.heap.size) (hx : a.eval x = .slice (some ⟨g, 0, none⟩) 1 1) (hlen : ps.length ≤ 100000)
    (hK : ∀ v' w', RwsR w' (fun k => R k ∨ base ≤ k ∧ k < w'.heap.size) v' (ps ++ [l]) → Dk.Fr R (w1.alloc (.cells #[.slice A n c] 40)) w' → K (a.put o.dst v') w') : o.wp Try.prog a (w1.alloc (.cells #[.slice A n c] 40)) K Q := by
  subst hn hg
  obtain ⟨i0, hi0, hz0, hz1, hz2⟩ := info_parts s48_info
  obtain ⟨xs, G, h1, rfl, h3, h4, h5⟩ := hR
  have hz : (w1.alloc (.cells #[.slice A l.length c] 40)).heap.size = w1.heap.size + 1 := by simp
  have hka : ∀ k, k < w1.heap.size → (w1.alloc (.cells #[.slice A l.length c] 40)).heap[k]? = w1.heap[k]? := fun k hk => Below.heap_alloc _ _ _ hk
  have h1' : (w1.alloc (.cells #[.slice A l.length c] 40)).ownsRow 0 40 1 v xs.length (xs.map cellS) := ownsRow_keep h1 (fun k hk => hka k (by have := hRb k (h5 k hk); omega))
  rw [List.length_map] at hlen
  obtain ⟨v', w', hrun, hown', hgr, _, hb'⟩ := run_append_own_at (P := Try.prog) (w1.alloc (.cells #[.slice A l.length c] 40)) 0 48 o.type 40 i0 (.slice none 0 0) 1 24 u48 hi0 hz0 hz1 hz2 rfl (by omega) v xs.length (xs.map cellS) h1' ⟨w1.heap.size, 0, none⟩ 1 1 [cellS (A, c, l)] (by simp) (by
      intro j u hu
      have hj : j = 0 := by
        have := (List.getElem?_eq_some_iff.1 hu).1
        simpa using this
      subst hj
      rw [Dk.add_plain, cell_of_row _ _ _ _ _ _ (heap_alloc_new w1 _)]
      simpa [cellS] using hu) (by intro u hu; simp at hu; subst hu; rfl) (by unfold maxLen; omega) (by omega) (by omega)
  unfold Oper.wp execOp
  simp only [hop, resolve, invoke, builtin, Sem.run_bind, Sem.run_pure, Result.andThen_ok, List.map_toArray, List.map_cons, List.map_nil, hs, hx, hrun]
  have hfr : ∀ k, k < w1.heap.size → v.ownBlock ≠ some k → w'.heap[k]? = w1.heap[k]? := fun k hk hne => (hgr.block k (by omega) (fun e => hne e.symm)).trans (hka k hk)
  have hsz : w1.heap.size + 1 ≤ w'.heap.size := by rw [← hz]; exact hgr.size
  refine hK v' w' ?_ ?_
  · refine ⟨xs ++ [(A, c, l)], fun k => G k ∨ (base ≤ k ∧ k < w1.heap.size), by simpa using hown', by simp, fun y hy => ?_, fun k hk => ?_, fun k hk => ?_⟩
    · rcases List.mem_append.1 hy with hy | hy
      · refine ⟨Bts.mono ((h3 y hy).1.kept (fun k hk => hfr k (by have := hRb k (h4 k hk).1; omega) (h4 k hk).2)) (fun k hk => .inl hk), (h3 y hy).2⟩
      · simp at hy
        subst hy
        refine ⟨Bts.mono (hB.lt.kept (w' := w') (fun k hk => hfr k hk.2 (fun e => by have := hRb k (h5 k e); have := hk.1; omega))) (fun k hk => .inr hk), hc, hlc⟩
    · rcases hk with hk | hk
      · refine ⟨.inl (h4 k hk).1, fun e => ?_⟩
        rcases hb' with hb' | hb'
        · exact (h4 k hk).2 (hb' ▸ e)
        · rw [hb'] at e; injection e with e; have := hRb k (h4 k hk).1; omega
      · refine ⟨.inr ⟨hk.1, by omega⟩, fun e => ?_⟩
        rcases hb' with hb' | hb'
        · have := hRb k (h5 k (hb' ▸ e)); omega
        · rw [hb'] at e; injection e with e; omega
    · rcases hb' with hb' | hb'
      · exact .inl (h5 k (hb' ▸ hk))
      · right
        have := (hown'.lt k hk).2
        rw [hb'] at hk
        injection hk with hk
        omega
  · exact Dk.Fr.grown hgr (fun k hk => h5 k hk)
theorem LgAt.setRow {w w' : World} {q p : Nat} {FD R R' : Nat → Prop} {v v' : Value} {t : L} {rs : List (List UInt8)} (h : LgAt w q p FD R v t) (hf : Dk.Fr R w w') (hR : RwsR w' R' v' rs) (hqr : ¬ R' q) (hfr : ∀ k, FD k → ¬ R' k) (hlt' : ∀ k, R' k → k < w'.heap.size) :
    LgAt (w'.setCell ⟨q, 2, none⟩ v') q p FD R' v' { t with rs := rs } := by
  have hq := h.lt q (.inl rfl)
  have hk : ∀ k, k ≠ q → (w'.setCell ⟨q, 2, none⟩ v').heap[k]? = w'.heap[k]? := fun k hk => Below.heap_setCell _ _ _ _ hk
  have h1 := Dk.set_row ((hf.block q hq h.qr).trans h.str) 2 v'
  refine ⟨h1, (h.dsk.fr hf h.fr).kept (fun k hk' => hk k (fun e => h.qf (e ▸ hk'))), hR.kept (fun k hk' => hk k (fun e => hqr (e ▸ hk'))), h.qf, hqr, hfr, fun k hk' => ?_⟩
  have := hlt' k hk'
  simp [World.setCell]
  exact this
end Wl
end Go.Proofs.Ytogkaoiiddhdbaa
