/- Contract of Legs. -/
import Derived.Test.YtmcekicaigbccaaGreatStInO
namespace Go.Proofs.YtmcekicaigbccaaGreat
open Go.RowKit Go.WideMaps
set_option linter.unusedVariables false

namespace St
def LegsIs (w : World) (l : List (K × Int)) (e : Ending) (w' : World) : Prop :=
  ∃ v ls, e = .returned v ∧ (∀ x, x ∈ ls ↔ ∃ e ∈ l, e.1.leg = x) ∧ Rising ls ∧ OwnL w' w.heap.size v ls ∧ Below w.heap.size w w'
def backK (v : Value) : K := match v with
  | .agg a => match a.toList with
    | [.string c, .int _ n, .int _ d, .int _ k] => ⟨c, n, d, k⟩
    | _ => ⟨⟨#[]⟩, 0, 0, 0⟩
  | _ => ⟨⟨#[]⟩, 0, 0, 0⟩
def backE (p : Value × Value) : K × Int := (backK p.1, match p.2 with | .int _ n => n | _ => 0)
theorem back_ent (e : K × Int) : backE (ent e) = e := rfl
theorem perm_ent {a b : List (K × Int)} (h : (a.map ent).Perm (b.map ent)) : a.Perm b := by
  have := h.map backE
  simpa [List.map_map, Function.comp_def, back_ent] using this
/-- What holds in the loop. -/
def LgS (w : World) (m q mm : Nat) (l : List (K × Int)) (wr : World) : Prop :=
  ∃ (left : List (Value × Value)) (dn : List (K × Int)) (D : List L), (l.map ent).Perm (dn.map ent ++ left) ∧ Mp.It Tryz.prog 77 wr m q (l.map ent) left ∧ Mp.MapS Tryz.prog 34 wr mm (D.map entL) ∧ (∀ x, x ∈ D ↔ ∃ e ∈ dn, e.1.leg = x) ∧ D.length ≤ dn.length ∧ Below w.heap.size w wr
/-- What laying a leg leaves of the set. -/
theorem set_upd {D : List L} {x : L} {l6 : List (Value × Value)} (hU : ((∀ p ∈ D.map entL, p.1 ≠ lv x) ∧ l6 = D.map entL ++ [(lv x, .agg #[])]) ∨ ∃ (j : Nat) (u : Value), (D.map entL)[j]? = some (lv x, u) ∧ l6 = (D.map entL).set j (lv x, .agg #[])) :
    ∃ D' : List L, l6 = D'.map entL ∧ (∀ y, y ∈ D' ↔ y ∈ D ∨ y = x) ∧ D'.length ≤ D.length + 1 := by
  rcases hU with ⟨_, h⟩ | ⟨j, u, h1, h2⟩
  · exact ⟨D ++ [x], by rw [h]; simp [entL], fun y => by simp, by simp⟩
  · have hj : j < D.length := by have := (List.getElem?_eq_some_iff.1 h1).1; simpa using this
    have hx : D[j] = x := by
      have := (List.getElem?_eq_some_iff.1 h1).2
      simp [entL] at this
      exact lv_inj this.1
    refine ⟨D, ?_, fun y => ⟨fun h => .inl h, fun h => ?_⟩, by omega⟩
    · rw [h2]
      apply List.ext_getElem?
      intro i
      rw [List.getElem?_set]
      by_cases hij : j = i
      · subst hij
        simp [hj, hx, entL]
      · simp [hij]
    · rcases h with h | rfl
      · exact h
      · rw [← hx]; exact List.getElem_mem hj
end St
set_option maxHeartbeats 2000000 in
set_option maxRecDepth 20000 in
theorem legs_any (Bt p t m : Nat) (rs : List Fl.R) (l : List (St.K × Int)) (w : World) (h : St.At w Bt p t m rs l) (hl : l.length ≤ 10000) :
    Calls Tryz.prog 12 #[.pointer (some ⟨p, 0, none⟩)] w (St.LegsIs w l) := by
  have HV := Lib.hid h.val
  have HM := Lib.hid h.map
  have hml := h.map.lt
  have HP := Lib.hid h.blk
  clear h
  have hmk : (Instr.makeMap 72 none).run Tryz.prog w = .ok (.map (some w.heap.size)) (w.alloc (.map #[] 0)) := by simp [Instr.makeMap, go_sem]
  obtain ⟨w1, ew1⟩ : ∃ x, x = w.alloc (.map #[] 0) := ⟨_, rfl⟩
  have hb1 : Below w.heap.size w w1 := by rw [ew1]; exact (Below.refl _ _).alloc (Nat.le_refl _) _
  have hz1 : w.heap.size < w1.heap.size := by rw [ew1]; simp
  have HD1 : Hid (Mp.MapS Tryz.prog 34 w1 w.heap.size ([].map St.entL)) := by rw [ew1]; exact Mp.MapS.made Tryz.prog 34 w
  have HM1 := Lib.hid (HM.out.kept (hb1.block m hml))
  have cp : w1.cell? ⟨p, 1, none⟩ = some (.map (some m)) := (HP.out.below' hb1).cell 1
  rw [← ew1] at hmk
  clear ew1 HP
  go_enter Tryz.func12, Tryz.ntmps12
  go_wp2_with (first
    | (at_range; refine Mp.wpList_range rfl _ rfl HM1.out St.uSold rfl ?_; intro w2 HIt hb2 hz2))
  go_frame
  have HS : Hid (St.LgS w m w1.heap.size w.heap.size l w2) := ⟨l.map St.ent, [], [], by simp, HIt.out, HD1.out.kept (hb2.block _ hz1), by simp, by simp, hb1.trans (hb2.mono hb1.size)⟩
  obtain ⟨q, hq⟩ : ∃ q, q = w1.heap.size := ⟨_, rfl⟩
  obtain ⟨mm, hmm⟩ : ∃ mm, mm = w.heap.size := ⟨_, rfl⟩
  have hmq : mm < q := by omega
  have hmw : w.heap.size ≤ mm := by omega
  rw [← hq, ← hmm] at HS
  rw [← hq, ← hmm]
  have HQ := Lib.hid hmm
  clear HIt hb2 hz2 HM1 hb1 hq HD1 hz1 cp hmk hmm
  go_loopw [4] (fun _ wr => Hid (St.LgS w m q mm l wr)) (fun _ wr => Mp.itLeft wr m q)
  case atStart => exact HS.out
  case round =>
    obtain ⟨wx, ewx⟩ : ∃ x, x = wr := ⟨_, rfl⟩
    subst ewx
    obtain ⟨left, dn, D, hp, hIt, hD, hmem, hDl, hbr⟩ := hrel.out
    have hIl := hIt.left_eq
    have HP := Lib.hid hp
    have HIt := Lib.hid hIt
    have HD := Lib.hid hD
    have HMe := Lib.hid hmem
    have HB := Lib.hid hbr
    have hdl : dn.length ≤ l.length := by
      have := hp.length_eq
      simp at this
      omega
    have hqx := hIt.lt
    have hwx := hbr.size
    clear hp hIt hD hmem hbr hrel HS
    go_wp2_with (first
      | (at_next; refine Mp.wpList_next rfl _ rfl rfl HIt.out ?_ ?_))
    · intro hl0
      subst hl0
      have HPm : Hid (dn.Perm l) := (St.perm_ent (by simpa using HP.out)).symm
      have HO := Lib.hid (inOrder_any mm D wx HD.out (by omega))
      clear HIt HP HD
      go_wp2_with (first
        | (go_at_call 33; refine HO.out.mono ?_; rintro e w5 ⟨v, ls, rfl, hp2, hr2, ho2, hb2⟩))
      go_ret
      refine ⟨v, ls, rfl, fun x => ?_, hr2, ?_, HB.out.trans (hb2.mono hwx)⟩
      · rw [hp2.mem_iff, HMe.out]
        constructor
        · rintro ⟨e, he, h⟩; exact ⟨e, HPm.out.mem_iff.1 he, h⟩
        · rintro ⟨e, he, h⟩; exact ⟨e, HPm.out.mem_iff.2 he, h⟩
      · obtain ⟨g1, g2 | ⟨g, cap, cur, hv, hg, g3⟩⟩ := ho2
        · exact ⟨g1, .inl g2⟩
        · exact ⟨g1, .inr ⟨g, cap, cur, hv, by omega, g3⟩⟩
    · intro k1 v1 left1 w3 hperm x n hx hxe HIt3 hOn hen
      unfold St.ent St.pv at hxe
      simp only at hxe
      injection hxe with e1 e2
      subst e1 e2
      have hok := (HV.out _ hx).2.2.leg
      have HB3 : Hid (Below w.heap.size w w3) := HB.out.trans (hOn.below (by omega))
      have hs3 := HB3.out.size
      have hmmx : mm < w3.heap.size := by have := hOn.size; have := hqx.1; omega
      obtain ⟨w4, ew4⟩ : ∃ y, y = w3.alloc (.cells #[.string x.car, .int .i64 x.num, .int .i64 x.day, .int .u8 x.cls] 77) := ⟨_, rfl⟩
      have hb4 : Below w3.heap.size w3 w4 := by rw [ew4]; exact (Below.refl _ _).alloc (Nat.le_refl _) _
      have HD4 : Mp.MapS Tryz.prog 34 w4 mm (D.map St.entL) := (HD.out.kept (hOn.block mm (by omega))).kept (hb4.block mm hmmx)
      have HK4 : Rw.Blk w4 w3.heap.size 77 [.string x.car, .int .i64 x.num, .int .i64 x.day, .int .u8 x.cls] := by rw [ew4]; exact heap_alloc_new w3 _
      have c0 : w4.cell? ⟨w3.heap.size, 0, none⟩ = some (.string x.car) := HK4.cell 0
      have c1 : w4.cell? ⟨w3.heap.size, 1, none⟩ = some (.int .i64 x.num) := HK4.cell 1
      have c2 : w4.cell? ⟨w3.heap.size, 2, none⟩ = some (.int .i64 x.day) := HK4.cell 2
      obtain ⟨w6, l6, hrun, HM6, HO6, HU6⟩ := HD4.upd St.lawL (St.lv_key (l := x.leg) hok) St.uSet (.agg #[])
      obtain ⟨D', rfl, hD1, hD2⟩ := St.set_upd HU6
      have hq4 := HIt3.out.lt
      have HIt6 : Hid (Mp.It Tryz.prog 77 w6 m q (l.map St.ent) left1) := by
        have h4 := HIt3.out.kept (hb4.block m hq4.2.1) (hb4.block q hq4.1)
        obtain ⟨es, ck, hb, _⟩ := HD4
        obtain ⟨_, _, _, _, _, g1, _, _, _, _, g6, _⟩ := id h4
        refine h4.kept (HO6.block m (fun e => ?_)) (HO6.block q (fun e => by omega))
        have := hml
        have := HQ.out
        omega
      have HF : Hid (St.LgS w m q mm l w6) := by
        refine ⟨left1, dn ++ [(x, n)], D', ?_, HIt6.out, HM6, fun y => ?_, ?_, (HB3.out.trans (hb4.mono hs3)).trans (HO6.below hmw)⟩
        · refine HP.out.trans ?_
          rw [List.map_append, List.append_assoc]
          exact List.Perm.append_left _ hperm
        · rw [hD1, HMe.out]
          constructor
          · rintro (⟨e, he, h⟩ | rfl)
            · exact ⟨e, by simp [he], h⟩
            · exact ⟨(x, n), by simp, rfl⟩
          · rintro ⟨e, he, h⟩
            rcases List.mem_append.1 he with he | he
            · exact .inl ⟨e, he, h⟩
            · simp at he
              subst he
              exact .inr h.symm
        · simp; omega
      have hl6 := HIt6.out.left_eq
      have hll : left1.length < left.length := by
        have := hperm.length_eq
        simp at this
        omega
      unfold St.lv St.K.leg at hrun
      simp only at hrun
      clear hperm hOn hx hok HM6 HO6 HU6 hD1 hD2 HD4 HK4 HIt3 HP HIt HD HB HMe
      rw [ew4] at hrun
      clear ew4 c0 c1 c2
      go_wp2
      go_roundw
      case rel => exact HF.out
      case measure => rw [hl6, hIl]; exact hll
end Go.Proofs.YtmcekicaigbccaaGreat
