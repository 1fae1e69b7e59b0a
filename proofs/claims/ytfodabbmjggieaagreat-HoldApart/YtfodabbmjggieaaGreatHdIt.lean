/- maps.Keys of a set of legs. -/
import Derived.Test.YtfodabbmjggieaaGreatHdRow
import Derived.Test.YtfodabbmjggieaaGreatMpR
import Derived.RangeFuncNested
import Derived.RangeFuncBox
import Derived.RangeFuncLeaves
import Derived.RangeFuncBound
import Derived.Shelf.Abstract
import Derived.WalkKit
import Derived.OwnWalkIn
import Derived.TacticsInMore
import Derived.LoopNIn
import Derived.LoopIn
import Derived.RegionIn
import Derived.Sort.MapsRangeIn
namespace Go.Proofs.YtfodabbmjggieaaGreat
open Go.RowKit Go.WideMaps
set_option linter.unusedVariables false

namespace Mp
theorem grown_of_below {w w' : World} (h : Below w.heap.size w w') : w.grownBy w' none := ⟨h.os, h.tape, h.output, h.size, fun k hk _ => h.block k hk⟩
theorem Only.grown {q : Nat} {w w' : World} (h : Only q w w') : w.grownBy w' (some q) := ⟨h.os, h.tape, h.output, Nat.le_of_eq h.size.symm, fun k _ hne => h.block k (fun e => hne (by rw [e]))⟩
section
variable {F : Fence} {n : Nat} {P : Program} {k : TypeId} {w : World} {r q : Nat} {l left : List (Value × Value)}
variable {ops : Array Oper} {rest : List Oper} {o : Oper} {a : Act} {Q : Exit → Act → World → Prop}
theorem wpListIn_range {t e : TypeId} (hg : o.guard = none) (m : Operand) (hop : o.op = Op.range t m) (h : MapS P k w r l) (ht : P.underlying t = some (.map k e)) (hm : a.eval m = .map (some r))
    (hK : ∀ w', Hid (It P k w' r w.heap.size l l) → Below w.heap.size w w' → w.heap.size < w'.heap.size → wpListIn F n P ops Q rest (a.put o.dst (.pointer (some ⟨w.heap.size, 0, none⟩))) w') : wpListIn F n P ops Q (o :: rest) a w := by
  refine wpListIn_plain hg fun K' hK' => ?_
  obtain ⟨w', hrun, r1, r2, r3⟩ := h.range ht
  unfold Oper.wpIn
  refine ⟨by simp [Oper.about, hop], ?_⟩
  rw [Oper.semAt_plain F _ _ (by rw [hop]; intro c hc'; cases hc')]
  simp [execOp, hop, hm, hrun, Result.andThen]
  exact hK' _ _ (hK w' r1 r2 r3)
theorem wpListIn_next (hg : o.guard = none) (it : Operand) (hop : o.op = Op.next it false) (hit : a.eval it = .pointer (some ⟨q, 0, none⟩)) (h : It P k w r q l left)
    (hDone : left = [] → wpListIn F n P ops Q rest (a.put o.dst (.tuple #[.bool false])) w)
    (hMore : ∀ (p : Value × Value) (left' : List (Value × Value)) (w' : World), left.Perm (p :: left') → p ∈ l → Hid (It P k w' r q l left') → Only q w w' → (Instr.entry (.pointer (some ⟨q, 0, none⟩))).run P w' = .ok (.tuple #[p.1, p.2]) w' → wpListIn F n P ops Q rest (a.put o.dst (.tuple #[.bool true, p.1, p.2])) w') :
    wpListIn F n P ops Q (o :: rest) a w := by
  refine wpListIn_plain hg fun K' hK' => ?_
  unfold Oper.wpIn
  refine ⟨by simp [Oper.about, hop], ?_⟩
  rw [Oper.semAt_plain F _ _ (by rw [hop]; intro c hc'; cases hc')]
  rcases h.next o.type with ⟨h0, hrun⟩ | ⟨p, left', w', h1, h2, h3, hrun, h4, h5, h6⟩
  · simp [execOp, hop, hit, hrun, Result.andThen]
    exact hK' _ _ (hDone h0)
  · simp [execOp, hop, hit, hrun, Result.andThen]
    exact hK' _ _ (hMore p left' w' h1 h3 h4 h5 h6)
end
theorem It.walks {P : Program} {k : TypeId} {w w' : World} {r q : Nat} {l left : List (Value × Value)} (h : It P k w r q l left) (hk : KeepsWalks w w') : It P k w' r q l left := by
  obtain ⟨es, ck, since, seen, c0, h1, h2, h3, h4, h5, h6, h7⟩ := h
  exact ⟨es, ck, since, seen, c0, hk.same r _ h1 rfl, h2, h3, h4, h5, hk.same q _ h6 rfl, h7⟩
theorem It.isWalk {P : Program} {k : TypeId} {w : World} {r q : Nat} {l left : List (Value × Value)} (h : It P k w r q l left) : ∃ o : Obj, w.heap[q]? = some o ∧ o.isWalk = true := by
  obtain ⟨es, ck, since, seen, c0, h1, h2, h3, h4, h5, h6, h7⟩ := h
  exact ⟨_, h6, rfl⟩
end Mp
namespace Hd
def entL (x : L) : Value × Value := (lv x, .agg #[])
def backL (v : Value) : L := match v with
  | .agg a => match a.toList with
    | [.string c, .int _ n, .int _ d] => ⟨c, n, d⟩
    | _ => ⟨⟨#[]⟩, 0, 0⟩
  | _ => ⟨⟨#[]⟩, 0, 0⟩
theorem back_lv (x : L) : backL (lv x) = x := rfl
theorem perm_of {a b : List L} (h : (a.map entL).Perm (b.map entL)) : a.Perm b := by
  have := h.map (fun p => backL p.1)
  simpa [List.map_map, Function.comp_def, entL, back_lv] using this
theorem uSet : Tryz.prog.underlying 99 = some (.map 35 100) := by kernel_rfl
end Hd
set_option maxRecDepth 100000 in
set_option maxHeartbeats 1000000 in
theorem keys1_in (F : Fence) (n : Nat) (hf : F.fn 57) (hro : F.round = none) (hn : 1 ≤ n) (l Bm m : Nat) (ls : List Hd.L) (J Jx : List Hd.L → World → Prop)
    (hY : ∀ pre x W, J pre W → pre.length < ls.length → YieldAt F (n - 1) Tryz.prog l #[Hd.lv x] W fun e W' =>
      (e = .returned (.bool true) ∧ J (pre ++ [x]) W' ∧ KeepsWalks W W') ∨ (e = .returned (.bool false) ∧ Jx (pre ++ [x]) W'))
    (W : World) (hJ : AbidesFrom W.heap.size J) (hm : W.cell? ⟨Bm, 0, none⟩ = some (.map (some m))) (hown : Mp.MapS Tryz.prog 35 W m (ls.map Hd.entL)) (h0 : J [] W) :
    CallsIn F n Tryz.prog 57 #[.func (.yield l) #[] #[], .pointer (some ⟨Bm, 0, none⟩)] W fun e W' => (∃ v, e = .returned v) ∧ ((∃ xs, xs.Perm ls ∧ J xs W') ∨ (∃ pre : List Hd.L, True ∧ Jx pre W')) := by
  refine callsIn_of_wp Tryz.func57 rfl hf ?_ hro
  simp only [Tryz.ntmps57, List.size_toArray, List.length_cons, List.length_nil, Nat.reduceAdd, Nat.reduceSub, Array.replicate_succ, Array.replicate_zero, List.push_toArray, List.append_toArray, List.nil_append, List.cons_append]
  gi_wp2_with (first
    | (gi_at_range; refine Mp.wpListIn_range rfl _ rfl hown Hd.uSet rfl ?_; intro w0 hIt0 hb0 hs0)
    | gi_in)
  go_frame
  gi_loopw [3] (fun _ wr => ∃ (left : List (Value × Value)) (dn : List Hd.L), (ls.map Hd.entL).Perm (dn.map Hd.entL ++ left) ∧ Hid (Mp.It Tryz.prog 35 wr m W.heap.size (ls.map Hd.entL) left) ∧ J dn wr)
    (fun _ wr => Mp.itLeft wr m W.heap.size)
  case atStart =>
    exact ⟨_, [], by simp, hIt0, hJ [] W w0 none h0 (Mp.grown_of_below hb0) (fun r e => by cases e)⟩
  case round =>
    obtain ⟨left, dn, hp, hIt, hJs⟩ := hrel
    have hIl := hIt.out.left_eq
    gi_wp2_with (first
      | (gi_at_next; refine Mp.wpListIn_next rfl _ rfl rfl hIt.out ?_ ?_)
      | gi_in)
    · intro hl0
      subst hl0
      gi_wp2
      go_end0
      exact ⟨⟨_, rfl⟩, .inl ⟨dn, (Hd.perm_of (by simpa using hp)).symm, hJs⟩⟩
    · intro k1 v1 left1 w3 hperm x hx hxe hIt3 hOn hen
      unfold Hd.entL Hd.lv at hxe
      injection hxe with e1 e2
      subst e1 e2
      replace hperm : left.Perm (Hd.entL x :: left1) := hperm
      have hl1 := hIt3.out.left_eq
      have hlen : dn.length < ls.length := by
        have h1 := hp.length_eq
        have h2 := hperm.length_eq
        simp at h1 h2
        omega
      have hll : left1.length < left.length := by
        have := hperm.length_eq
        simp at this
        omega
      have hqw := hIt.out.isWalk
      have hJ3 : J dn w3 := hJ dn wr w3 (some W.heap.size) hJs hOn.grown (fun r e => by cases e; exact ⟨Nat.le_refl _, hqw⟩)
      have hP2 : (ls.map Hd.entL).Perm ((dn ++ [x]).map Hd.entL ++ left1) := by
        refine hp.trans ?_
        rw [List.map_append, List.append_assoc]
        exact List.Perm.append_left _ hperm
      obtain ⟨car, num, day⟩ := x
      have hJ4 : J dn (w3.alloc (.cells #[.string car, .int .i64 num, .int .i64 day] 35)) := hJ dn w3 _ none hJ3 (World.grownBy_alloc w3 _ none) (fun r e => by cases e)
      obtain ⟨fn, tmps, assign, body, hy, hR⟩ := hY dn ⟨car, num, day⟩ _ hJ4 hlen
      have hk0 : KeepsWalks w3 (w3.alloc (.cells #[.string car, .int .i64 num, .int .i64 day] 35)) := KeepsWalks.alloc _ _
      unfold Hd.lv at hy
      simp only at hy hen ⊢
      clear hperm hx hJ3 hJ4 hOn hqw
      gi_wp2
      refine hR.mono ?_
      rintro e W3 (⟨rfl, hJ3, hk3⟩ | ⟨rfl, hJx3⟩)
      · have hIt4 := (hIt3.out.walks hk0).walks hk3
        have hl4 := hIt4.left_eq
        gi_wp2
        go_roundw
        case rel => exact ⟨left1, dn ++ [⟨car, num, day⟩], hP2, hIt4, hJ3⟩
        case measure => rw [hl4, hIl]; exact hll
      · gi_wp2
        refine bodyPost_ret (results_none rfl _ _ _) rfl ?_
        exact ⟨⟨_, rfl⟩, .inr ⟨_, trivial, hJx3⟩⟩
end Go.Proofs.YtfodabbmjggieaaGreat
