/- inOrder: the legs of a map, in order. -/
import Derived.Test.YtmcekicaigbccaaGreatStSrt
import Derived.Test.YtmcekicaigbccaaGreatMpR
import Derived.Deep.RegionWith
namespace Go.Proofs.YtmcekicaigbccaaGreat
open Go.RowKit Go.WideMaps
set_option linter.unusedVariables false

namespace St
def entL (x : L) : Value × Value := (lv x, .agg #[])
def backL (v : Value) : L := match v with
  | .agg a => match a.toList with
    | [.string c, .int _ n, .int _ d] => ⟨c, n, d⟩
    | _ => ⟨⟨#[]⟩, 0, 0⟩
  | _ => ⟨⟨#[]⟩, 0, 0⟩
theorem back_lv (x : L) : backL (lv x) = x := rfl
theorem perm_of {a b : List L} (h : (a.map entL).Perm (b.map entL)) : a.Perm b := by
  have := h.map (fun p => backL p.1)
  simpa [List.map_map, Function.comp_def, entL, back_lv] using this
theorem uSet : Tryz.prog.underlying 72 = some (.map 34 78) := by kernel_rfl
theorem lenSet {w : World} {m : Nat} {es : Array MapEntry} {ck : Nat} (h : w.heap[m]? = some (.map es ck)) : (Builtin.len_ #[72] 3 #[.map (some m)]).run Tryz.prog w = .ok (.int .i64 es.size) w := by
  simp [Builtin.len_, run_underlying uSet, MapKept.run_getObj_map h, go_sem]
/-- Legs in their order, each once. -/
def Rising (ls : List L) : Prop := ∀ i j (hj : j < ls.length) (hij : i < j), llt ls[i] ls[j] = true
theorem rising_of {ls : List L} (h : RiseL ls) (hn : ls.Nodup) : Rising ls := fun i j hj hij => by
  cases hc : llt ls[i] ls[j] with
  | true => rfl
  | false =>
    have := llt_total hc (h i j hj hij)
    exact absurd this (List.pairwise_iff_getElem.1 hn i j (by omega) hj hij)
def OrdIs (w : World) (ls : List L) (e : Ending) (w' : World) : Prop :=
  ∃ v ls', e = .returned v ∧ ls'.Perm ls ∧ Rising ls' ∧ OwnL w' w.heap.size v ls' ∧ Below w.heap.size w w'
theorem it_kept {w w' : World} {r q : Nat} {l left : List (Value × Value)} (h : Mp.It Tryz.prog 34 w r q l left) (hk : ∀ k, k < w.heap.size → (∀ cur, w.heap[k]? ≠ some (.cells cur 34 (0, 0))) → w'.heap[k]? = w.heap[k]?) : Mp.It Tryz.prog 34 w' r q l left := by
  obtain ⟨h1, h2, _⟩ := h.lt
  have h' := h
  obtain ⟨es, ck, since, seen, c0, g1, g2, g3, g4, g5, g6, g7⟩ := h'
  exact h.kept (hk r h2 (fun cur e => by rw [g1] at e; cases e)) (hk q h1 (fun cur e => by rw [g6] at e; cases e))
theorem nodup_of {ls : List L} (h : ((ls.map entL).map Prod.fst).Nodup) : ls.Nodup := by
  have e : (ls.map entL).map Prod.fst = ls.map lv := by simp [entL, List.map_map, Function.comp_def]
  rw [e] at h
  exact List.Pairwise.of_map lv (fun a b hab e => hab (by rw [e])) h
/-- What holds in the loop: the legs done are in the own row; those left are the iterator's. -/
def InO (w : World) (mm q : Nat) (ls : List L) (v : Value) (wr : World) : Prop :=
  ∃ (left : List (Value × Value)) (dn : List L), (ls.map entL).Perm (dn.map entL ++ left) ∧ Mp.It Tryz.prog 34 wr mm q (ls.map entL) left ∧ OwnL wr w.heap.size v dn ∧ Below w.heap.size w wr
end St
set_option maxHeartbeats 2000000 in
set_option maxRecDepth 20000 in
theorem inOrder_any (mm : Nat) (ls : List St.L) (w : World) (h : Mp.MapS Tryz.prog 34 w mm (ls.map St.entL)) (hl : ls.length ≤ 10000) :
    Calls Tryz.prog 33 #[.map (some mm)] w (St.OrdIs w ls) := by
  obtain ⟨i0, hi0, hz0, hz1, hz2⟩ := St.infoL'
  have HI := Lib.hid hi0
  have HZ0 := Lib.hid hz0
  have HZ1 := Lib.hid hz1
  have HZ2 := Lib.hid hz2
  have HM := Lib.hid h
  obtain ⟨es, ck, hob, hsz⟩ := h.obj
  have hlen := St.lenSet hob
  rw [hsz, List.length_map] at hlen
  have HND : Hid ls.Nodup := by
    obtain ⟨_, _, _, _, _, hn, _⟩ := h
    exact St.nodup_of hn
  have hml := h.lt
  clear hi0 hz0 hz1 hz2 h hob hsz
  go_enter Tryz.func33, Tryz.ntmps33
  go_wp2_with (first
    | (refine wpList_make_own _ rfl _ _ 38 rfl w.heap.size 34 i0 _ 3 Tryz.underlying38 HI.out HZ0.out HZ1.out .i64 .i64 _ ls.length rfl rfl rfl (by rw [HZ2.out]; omega) (by unfold maxLen; omega) (Nat.le_refl _) ?_; intro w1 r1 g1; have hb1 : Below w.heap.size w w1 := ⟨g1.os, g1.tape, g1.output, g1.size, fun k hk => g1.block k hk (by simp)⟩; have HM1 := Lib.hid (HM.out.kept (hb1.block mm hml)))
    | (at_range; refine Mp.wpList_range rfl _ rfl HM1.out St.uSet rfl ?_; intro w2 HIt hb2 hz2))
  go_frame
  have hz0 : w.heap.size < w1.heap.size := by
    obtain ⟨_, ⟨hv, _⟩ | ⟨g, cap, cur, hv, hg, hh, _⟩⟩ := r1
    · cases hv
    · injection hv with e1
      injection e1 with e1
      injection e1 with e1
      subst e1
      exact Rw.lt_of_some hh
  have HS : Hid (St.InO w mm w1.heap.size ls (.slice (some ⟨w.heap.size, 0, none⟩) 0 ls.length) w2) :=
    ⟨ls.map St.entL, [], by simp, HIt.out, (St.OwnL.below (show St.OwnL w1 _ _ [] from r1) hb2), hb1.trans (hb2.mono hb1.size)⟩
  obtain ⟨q, hq⟩ : ∃ q, q = w1.heap.size := ⟨_, rfl⟩
  rw [← hq] at HS ⊢
  have hwq : w.heap.size ≤ q := by omega
  clear r1 g1 HIt hb2 hz2 HM1 hb1 hz0 hlen hq
  go_loopw [3] (fun v wr => Hid (St.InO w mm q ls v wr)) (fun _ wr => Mp.itLeft wr mm q)
  case atStart => exact HS.out
  case round =>
    obtain ⟨wx, ewx⟩ : ∃ x, x = wr := ⟨_, rfl⟩
    subst ewx
    obtain ⟨left, dn, hp, hIt, hO, hbr⟩ := hrel.out
    have hIl := hIt.left_eq
    have HP := Lib.hid hp
    have HIt := Lib.hid hIt
    have HO := Lib.hid hO
    have HB := Lib.hid hbr
    have hdl : dn.length ≤ ls.length := by
      have := hp.length_eq
      simp at this
      omega
    have hqx := hIt.lt
    clear hp hIt hO hbr hrel
    go_wp2_with (first
      | (at_next; refine Mp.wpList_next rfl _ rfl rfl HIt.out ?_ ?_))
    · intro hl0
      subst hl0
      have HPm : Hid (dn.Perm ls) := (St.perm_of (by simpa using HP.out)).symm
      have HSo := Lib.hid (sortOwnL_any w.heap.size u3 dn wx HO.out (by omega) HB.out.size)
      clear HIt HP HO
      go_wp2_with (first
        | (go_at_call 54; refine HSo.out.mono ?_; rintro e w5 ⟨rfl, ls2, hp2, hr2, ho2, hb2⟩))
      go_ret
      refine ⟨_, ls2, rfl, hp2.trans HPm.out, St.rising_of hr2 ((hp2.trans HPm.out).nodup_iff.2 HND.out), ho2, HB.out.trans hb2⟩
    · intro k1 v1 left1 w3 hperm x hx hxe HIt3 hOn hen
      unfold St.entL St.lv at hxe
      injection hxe with e1 e2
      subst e1 e2
      have b3 : Below q wx w3 := hOn.below (Nat.le_refl _)
      have HB3 : Hid (Below w.heap.size w w3) := HB.out.trans (hOn.below hwq)
      have HO3 : Hid (St.OwnL w3 w.heap.size u3 dn) := by
        obtain ⟨g1, g2 | ⟨g, cap, cur, hv, hg, hh, g3⟩⟩ := HO.out
        · exact ⟨g1, .inl g2⟩
        · refine ⟨g1, .inr ⟨g, cap, cur, hv, hg, (hOn.block g (fun e => ?_)).trans hh, g3⟩⟩
          rw [e] at hh
          obtain ⟨_, _, _, _, _, _, _, _, _, _, h6, _⟩ := HIt.out
          rw [hh] at h6
          cases h6
      have HPm : Hid ((ls.map St.entL).Perm ((dn ++ [x]).map St.entL ++ left1)) := by
        refine HP.out.trans ?_
        rw [List.map_append, List.append_assoc]
        exact List.Perm.append_left _ hperm
      have hlt1 := HIt3.out.left_eq
      have hll : left1.length < left.length := by
        have := hperm.length_eq
        simp at this
        omega
      have hsz3 := hOn.size
      have hq3 := HIt3.out.lt
      clear hperm hx hOn HP HIt HO HB
      obtain ⟨car, num, day⟩ := x
      simp only at hen ⊢
      have hdl2 : dn.length < 100000 := by omega
      have ba : Below w3.heap.size w3 (w3.alloc (.cells #[.string car, .int .i64 num, .int .i64 day] 34)) := (Below.refl _ _).alloc (Nat.le_refl _) _
      have HBA := Lib.hid ba
      have hsA := ba.size
      have hs3 := HB3.out.size
      clear ba
      go_wp2_with (first
        | (refine St.wpList_buildL rfl _ rfl ⟨car, num, day⟩ rfl ?_; intro w5 HK5 hb5 hz5; have HB35 : Hid (Below w3.heap.size w3 w5) := HBA.out.trans (hb5.mono hsA); have HO5 := Lib.hid (HO3.out.below HB35.out); have hs5 : w.heap.size ≤ w5.heap.size := Nat.le_trans hs3 HB35.out.size)
        | (refine St.wpList_appendL rfl _ _ rfl w.heap.size u3 dn ⟨car, num, day⟩ HO5.out rfl _ rfl HK5.out hdl2 hs5 ?_; intro v7 w7 HO7 HB7 HT7))
      have HIt5 := HIt3.out.kept (HB35.out.block mm hq3.2.1) (HB35.out.block q hq3.1)
      have HIt7 := St.it_kept HIt5 HT7.out
      have hl7 := HIt7.left_eq
      have HF : Hid (St.InO w mm q ls v7 w7) := ⟨left1, dn ++ [⟨car, num, day⟩], HPm.out, HIt7, HO7.out, (HB3.out.trans (HB35.out.mono hs3)).trans HB7.out⟩
      go_roundw
      case rel => exact HF.out
      case measure => rw [hl7, hIl]; exact hll
end Go.Proofs.YtmcekicaigbccaaGreat
