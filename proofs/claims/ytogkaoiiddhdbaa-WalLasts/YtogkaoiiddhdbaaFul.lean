/- What the laws lean on: a row of texts that grows beside the log; a log opened anew. -/
import Derived.Test.YtogkaoiiddhdbaaBgn
namespace Go.Proofs.Ytogkaoiiddhdbaa
open Go.RowKit

namespace Wl
theorem LiveL.fr {w0 w w' : World} {X Y : Nat → Prop} {q p : Nat} {t : L} (h : LiveL w0 X w q p t) (hf : Dk.Fr X w w') (hX0 : ∀ k, X k → w0.heap.size ≤ k) (hY : ∀ k, Y k → X k ∨ (w.heap.size ≤ k ∧ k < w'.heap.size)) : LiveL w0 Y w' q p t := by
  obtain ⟨FD, R, v, hL, hF, hbw, hX⟩ := h
  have hlt := hL.lt
  refine ⟨FD, R, v, hL.kept hf.size (fun k hk => hf.block k (hlt k hk) (hF k hk).2), fun k hk => ⟨(hF k hk).1, fun hy => ?_⟩, hbw.trans (hf.below hbw.size hX0), fun k hk => ?_⟩
  · rcases hY k hy with h1 | h1
    · exact (hF k hk).2 h1
    · have := hlt k hk; omega
  · rcases hY k hk with h1 | h1
    · exact Nat.lt_of_lt_of_le (hX k h1) hf.size
    · exact h1.2
/-- The block of a row of texts. -/
def Blk (v : Value) : Nat → Prop := fun k => v.ownBlock = some k
/-- append(texts, t), beside other things. -/
theorem wpList_appendF {w1 : World} {ops : Array Oper} {rest : List Oper} {o : Oper} {a : Act} {Q : Exit → Act → World → Prop} (hgd : o.guard = none) (s x : Operand)
    (ho : o.op = .call { callee := .builtin .append, args := #[s, x], argTypes := #[35, 35] })
    (base : Nat) (v : Value) (ts L : List (List UInt8)) (l : List UInt8) (hown : OwnT w1 base v ts) (hs : a.eval s = v) (g : Nat) (hg : g = w1.heap.size) (hx : a.eval x = .slice (some ⟨g, 0, none⟩) 1 1)
    (hL : ts ++ [l] = L) (nL : Nat) (hnL : nL = L.length) (hlen : L.length ≤ 1000000) (hbase : base ≤ w1.heap.size)
    (h : ∀ A' cap' w', Hid (OwnT w' base (.slice A' nL cap') L) → Hid (Dk.Fr (Blk v) w1 w') → Hid (∀ k, Blk (.slice A' nL cap') k → Blk v k ∨ (w1.heap.size ≤ k ∧ k < w'.heap.size)) → wpList Try.prog ops Q rest (a.put o.dst (.slice A' nL cap')) w') : wpList Try.prog ops Q (o :: rest) a (w1.alloc (.cells #[.string ⟨l.toArray⟩] 9)) := by
  subst hg hnL hL
  obtain ⟨i0, hi0, hz0, hz1, hz2⟩ := info_parts s9_info
  have hb1 := (Below.refl w1.heap.size w1).alloc (Nat.le_refl _) (.cells #[.string ⟨l.toArray⟩] 9)
  have hz : (w1.alloc (.cells #[.string ⟨l.toArray⟩] 9)).heap.size = w1.heap.size + 1 := by simp
  rw [List.length_append] at hlen
  simp only [List.length_cons, List.length_nil] at hlen
  obtain ⟨v', w', hrun, hown', hgr, _, hb'⟩ := run_append_own_at (P := Try.prog) (w1.alloc (.cells #[.string ⟨l.toArray⟩] 9)) base 35 o.type 9 i0 (.string ⟨#[]⟩) 1 16 u35 hi0 hz0 hz1 hz2 rfl (by omega) v ts.length (ts.map strV) (hown.below hb1) ⟨w1.heap.size, 0, none⟩ 1 1 [strV l] (by simp) (fun j u hu => by
    have hj : j = 0 := by
      have := (List.getElem?_eq_some_iff.1 hu).1
      simpa using this
    subst hj
    rw [Dk.add_plain, cell_of_row _ _ _ _ _ _ (heap_alloc_new w1 _)]
    simpa [strV] using hu) (by intro u hu; simp at hu; subst hu; rfl) (by unfold maxLen; omega) (by omega) (by omega)
  have hown2 : OwnT w' base v' (ts ++ [l]) := by
    unfold OwnT
    simpa using hown'
  have hlt2 := hown2.own
  obtain ⟨A', cap', hv⟩ := hown2.form
  refine wpList_plain hgd fun K hK' => ?_
  unfold Oper.wp execOp
  simp only [ho, resolve, invoke, builtin, Sem.run_bind, Sem.run_pure, Result.andThen_ok, List.map_toArray, List.map_cons, List.map_nil, hs, hx, hrun]
  rw [hv] at hown2 hb' hlt2 ⊢
  refine hK' _ _ (h A' cap' w' hown2 ?_ ?_)
  · have f1 : Dk.Fr (Blk v) w1 (w1.alloc (.cells #[.string ⟨l.toArray⟩] 9)) := Dk.Fr.of_below hb1
    exact f1.trans (Dk.Fr.grown hgr (fun k hk => hk)) (fun _ _ h => h)
  · intro k hk
    rcases hb' with hb' | hb'
    · exact .inl (show v.ownBlock = some k from hb' ▸ hk)
    · right
      have hk' : (Value.slice A' (ts ++ [l]).length cap').ownBlock = some k := hk
      have := (hlt2 k hk').2
      rw [hb'] at hk'
      injection hk' with hk'
      omega
/-- A log that is right, opened anew with the power on. -/
theorem Good.reopen {n : Nat} {t : L} (h : Good n t) (hf : t.d.fused = false) (hg : t.g < 4294967000) : ¬ 4294967295 < nextOf t.d ∧ (begin_ t.d (nextOf t.d) (found t.d)).2 = 0 ∧ Good n (opened t.d) ∧ (opened t.d).rs = t.rs ∧ (opened t.d).g = t.g + 1 ∧ (opened t.d).d.fused = false := by
  obtain ⟨f, hF, hI⟩ := id h.ex
  have hnt : t.d.n.toNat = n := by rw [h.nn]; simp
  obtain ⟨h1, h2⟩ := open_run hF h.nn h.up h.l0 h.l1 hI.ci (by omega)
  have hnx : nextOf t.d = t.g + 1 := by rw [hF.next, hnt]; exact hI.next
  rcases h2 with ⟨a1, a2, a3, a4, a5, a6⟩ | ⟨_, a2, _⟩
  · refine ⟨h1, a1, a2, a3, ?_, by rw [a6]; exact hf⟩
    have : opened t.d = (opening t.d).begin (nextOf t.d) (found t.d) := rfl
    rw [this]
    unfold L.begin
    show (if (begin_ t.d (nextOf t.d) (found t.d)).2 = 0 then _ else _ : L).g = _
    rw [if_pos a1, hnx]
  · rw [hf] at a2; cases a2
theorem Good.ok {n : Nat} {t : L} (h : Good n t) (hn : n ≤ 4096) : Dk.Ok t.d 50000 := (h.fits hn).ok
end Wl
end Go.Proofs.Ytogkaoiiddhdbaa
