/- Laws at the operations of a range over a map. -/
import Derived.Test.YtfodabbmjggieaaGreatMpS
import Derived.Maps.RangeWalk
namespace Go.Proofs.YtfodabbmjggieaaGreat
open Go.RowKit Go.WideMaps
set_option linter.unusedVariables false

namespace Mp
/-- How many are still to come. -/
def itLeft (w : World) (r q : Nat) : Nat := match w.heap[r]?, w.heap[q]? with
  | some (.map es _), some (.mapIter _ _ seen _) => (leftOf es seen).size
  | _, _ => 0
section
variable {P : Program} {k : TypeId} {w : World} {r q : Nat} {l left : List (Value × Value)}
theorem It.left_eq (h : It P k w r q l left) : itLeft w r q = left.length := by
  obtain ⟨es, ck, since, seen, c0, h1, h2, h3, h4, h5, h6, h7, h8, rfl⟩ := h
  simp [itLeft, h1, h6]
variable {ops : Array Oper} {rest : List Oper} {o : Oper} {a : Act} {Q : Exit → Act → World → Prop}
theorem wpList_range {t e : TypeId} (hg : o.guard = none) (m : Operand) (hop : o.op = Op.range t m) (h : MapS P k w r l) (ht : P.underlying t = some (.map k e)) (hm : a.eval m = .map (some r))
    (hK : ∀ w', Hid (It P k w' r w.heap.size l l) → Below w.heap.size w w' → w.heap.size < w'.heap.size → wpList P ops Q rest (a.put o.dst (.pointer (some ⟨w.heap.size, 0, none⟩))) w') : wpList P ops Q (o :: rest) a w := by
  refine wpList_plain hg fun K' hK' => ?_
  obtain ⟨w', hrun, r1, r2, r3⟩ := h.range ht
  unfold Oper.wp
  simp [execOp, hop, hm, hrun, Result.andThen]
  exact hK' _ _ (hK w' r1 r2 r3)
theorem wpList_next (hg : o.guard = none) (it : Operand) (hop : o.op = Op.next it false) (hit : a.eval it = .pointer (some ⟨q, 0, none⟩)) (h : It P k w r q l left)
    (hDone : left = [] → wpList P ops Q rest (a.put o.dst (.tuple #[.bool false])) w)
    (hMore : ∀ (p : Value × Value) (left' : List (Value × Value)) (w' : World), left.Perm (p :: left') → p ∈ l → Hid (It P k w' r q l left') → Only q w w' → (Instr.entry (.pointer (some ⟨q, 0, none⟩))).run P w' = .ok (.tuple #[p.1, p.2]) w' → wpList P ops Q rest (a.put o.dst (.tuple #[.bool true, p.1, p.2])) w') :
    wpList P ops Q (o :: rest) a w := by
  refine wpList_plain hg fun K' hK' => ?_
  unfold Oper.wp
  rcases h.next o.type with ⟨h0, hrun⟩ | ⟨p, left', w', h1, h2, h3, hrun, h4, h5, h6⟩
  · simp [execOp, hop, hit, hrun, Result.andThen]
    exact hK' _ _ (hDone h0)
  · simp [execOp, hop, hit, hrun, Result.andThen]
    exact hK' _ _ (hMore p left' w' h1 h3 h4 h5 h6)
end
end Mp
end Go.Proofs.YtfodabbmjggieaaGreat
