/- Contracts: the keys in their order; Legs. -/
import Derived.Test.YtfodabbmjggieaaGreatHdCol
import Derived.Test.YtfodabbmjggieaaGreatHdSrt
import Derived.Test.YtfodabbmjggieaaGreatHdMem
namespace Go.Proofs.YtfodabbmjggieaaGreat
open Go.RowKit Go.WideMaps
set_option linter.unusedVariables false

theorem keys_any (m : Nat) (w : World) : Calls Tryz.prog 37 #[.map (some m)] w fun e w' => e = .returned (.func (.func 57) #[] #[.pointer (some ⟨w.heap.size, 0, none⟩)]) ∧ w' = w.alloc (.cells #[.map (some m)] 99) := by
  go_enter Tryz.func37, Tryz.ntmps37
  go_wp2
  go_ret
  exact ⟨rfl, rfl⟩
theorem collect_any (Bm m : Nat) (ls : List Hd.L) (w : World) (hBm : Bm < w.heap.size) (hm : w.cell? ⟨Bm, 0, none⟩ = some (.map (some m))) (hown : Mp.MapS Tryz.prog 35 w m (ls.map Hd.entL)) (hl : ls.length ≤ 100000) :
    Calls Tryz.prog 55 #[.func (.func 57) #[] #[.pointer (some ⟨Bm, 0, none⟩)]] w fun e w' => ∃ v ls', e = .returned v ∧ ls'.Perm ls ∧ Hd.OwnL w' w.heap.size v ls' ∧ Below w.heap.size w w' := by
  have HA := Lib.hid (appendSeq_any Bm m ls w hBm hm hown hl)
  clear hm hown
  go_enter Tryz.func55, Tryz.ntmps55
  go_wp2_with (first
    | (go_at_call 80; refine HA.out.mono ?_; rintro e w2 ⟨v, ls2, rfl, hp, hO, hb⟩))
  go_ret
  exact ⟨v, ls2, rfl, hp, hO, hb⟩
theorem sortedFunc_any (Bm m : Nat) (ls : List Hd.L) (w : World) (hBm : Bm < w.heap.size) (hm : w.cell? ⟨Bm, 0, none⟩ = some (.map (some m))) (hown : Mp.MapS Tryz.prog 35 w m (ls.map Hd.entL)) (hl : ls.length ≤ 100000) :
    Calls Tryz.prog 36 #[.func (.func 57) #[] #[.pointer (some ⟨Bm, 0, none⟩)], .func (.func 38) #[] #[]] w fun e w' => ∃ v ls', e = .returned v ∧ ls'.Perm ls ∧ Hd.RiseL ls' ∧ Hd.OwnL w' w.heap.size v ls' ∧ Below w.heap.size w w' := by
  have HA := Lib.hid (collect_any Bm m ls w hBm hm hown hl)
  clear hm hown
  go_enter Tryz.func36, Tryz.ntmps36
  go_wp2_with (first
    | (go_at_call 55; refine HA.out.mono ?_; rintro e w2 ⟨v, ls2, rfl, hp, hO, hb⟩; have HP := Lib.hid hp; have HB := Lib.hid hb; have HSo := Lib.hid (sortOwnL_any w.heap.size v ls2 w2 hO (by rw [hp.length_eq]; exact hl) hb.size); clear hp hO hb)
    | (go_at_call 56; refine HSo.out.mono ?_; rintro e w3 ⟨rfl, ls3, hp3, hr3, hO3, hb3⟩))
  go_ret
  exact ⟨v, ls3, rfl, hp3.trans HP.out, hr3, hO3, HB.out.trans hb3⟩
namespace Hd
/-- Legs in their order, each once. -/
def Rising (ls : List L) : Prop := ∀ i j (hj : j < ls.length) (hij : i < j), llt ls[i] ls[j] = true
theorem rising_of {ls : List L} (h : RiseL ls) (hn : ls.Nodup) : Rising ls := fun i j hj hij => by
  cases hc : llt ls[i] ls[j] with
  | true => rfl
  | false =>
    have := llt_total hc (h i j hj hij)
    exact absurd this (List.pairwise_iff_getElem.1 hn i j (by omega) hj hij)
theorem nodup_of {ls : List L} (h : ((ls.map entL).map Prod.fst).Nodup) : ls.Nodup := by
  have e : (ls.map entL).map Prod.fst = ls.map lv := by simp [entL, List.map_map, Function.comp_def]
  rw [e] at h
  exact List.Pairwise.of_map lv (fun a b hab e => hab (by rw [e])) h
/-- What holds in the loop: the legs done are in the own row; those left are the iterator's. -/
def InO (w : World) (mm q : Nat) (ls : List L) (v : Value) (wr : World) : Prop :=
  ∃ (left : List (Value × Value)) (dn : List L), (ls.map entL).Perm (dn.map entL ++ left) ∧ Mp.It Tryz.prog 35 wr mm q (ls.map entL) left ∧ OwnL wr w.heap.size v dn ∧ Below w.heap.size w wr
def LegsIs (w : World) (l : List (K × H)) (e : Ending) (w' : World) : Prop :=
  ∃ v ls, e = .returned v ∧ (∀ x, x ∈ ls ↔ ∃ e ∈ l, e.1.leg = x) ∧ Rising ls ∧ OwnL w' w.heap.size v ls ∧ Below w.heap.size w w'
def backK (v : Value) : K := match v with
  | .agg a => match a.toList with
    | [.string c, .int _ n, .int _ d, .int _ r, .int _ k] => ⟨c, n, d, r, k⟩
    | _ => ⟨⟨#[]⟩, 0, 0, 0, 0⟩
  | _ => ⟨⟨#[]⟩, 0, 0, 0, 0⟩
def backH (v : Value) : H := match v with
  | .agg a => match a.toList with
    | [.string c, .int _ n] => ⟨c, n⟩
    | _ => h0
  | _ => h0
def backE (p : Value × Value) : K × H := (backK p.1, backH p.2)
theorem back_ent (e : K × H) : backE (ent e) = e := rfl
theorem perm_ent {a b : List (K × H)} (h : (a.map ent).Perm (b.map ent)) : a.Perm b := by
  have := h.map backE
  simpa [List.map_map, Function.comp_def, back_ent] using this
/-- What holds in the loop. -/
def LgS (w : World) (m q mm : Nat) (l : List (K × H)) (wr : World) : Prop :=
  ∃ (left : List (Value × Value)) (dn : List (K × H)) (D : List L), (l.map ent).Perm (dn.map ent ++ left) ∧ Mp.It Tryz.prog 91 wr m q (l.map ent) left ∧ Mp.MapS Tryz.prog 35 wr mm (D.map entL) ∧ (∀ x, x ∈ D ↔ ∃ e ∈ dn, e.1.leg = x) ∧ D.length ≤ dn.length ∧ Below w.heap.size w wr
/-- What laying a leg leaves of the set. -/
theorem set_upd {D : List L} {x : L} {l6 : List (Value × Value)} (hU : ((∀ p ∈ D.map entL, p.1 ≠ lv x) ∧ l6 = D.map entL ++ [(lv x, .agg #[])]) ∨ ∃ (j : Nat) (u : Value), (D.map entL)[j]? = some (lv x, u) ∧ l6 = (D.map entL).set j (lv x, .agg #[])) :
    ∃ D' : List L, l6 = D'.map entL ∧ (∀ y, y ∈ D' ↔ y ∈ D ∨ y = x) ∧ D'.length ≤ D.length + 1 := by
  rcases hU with ⟨_, h⟩ | ⟨j, u, h1, h2⟩
  · exact ⟨D ++ [x], by rw [h]; simp [entL], fun y => by simp, by simp⟩
  · have hj : j < D.length := by have := (List.getElem?_eq_some_iff.1 h1).1; simpa using this
    have hx : D[j] = x := by
      have := (List.getElem?_eq_some_iff.1 h1).2
      simp [entL] at this
      exact lv_inj this.1
    refine ⟨D, ?_, fun y => ⟨fun h => .inl h, fun h => ?_⟩, by omega⟩
    · rw [h2]
      apply List.ext_getElem?
      intro i
      rw [List.getElem?_set]
      by_cases hij : j = i
      · subst hij
        simp [hj, hx, entL]
      · simp [hij]
    · rcases h with h | rfl
      · exact h
      · rw [← hx]; exact List.getElem_mem hj
end Hd
set_option maxHeartbeats 2000000 in
set_option maxRecDepth 20000 in
theorem legs_any (Bt p t m : Nat) (A : Option Addr) (cap : Nat) (rs : List Fl.R) (gs : List (Nat × Pl.P)) (l : List (Hd.K × Hd.H)) (w : World) (h : Hd.At w Bt p t m A cap rs gs l) (hl : l.length ≤ 10000) :
    Calls Tryz.prog 22 #[.pointer (some ⟨p, 0, none⟩)] w (Hd.LegsIs w l) := by
  have HV := Lib.hid h.val
  have HM := Lib.hid h.map
  have hml := h.map.lt
  have HP := Lib.hid h.blk
  clear h
  have hmk : (Instr.makeMap 99 none).run Tryz.prog w = .ok (.map (some w.heap.size)) (w.alloc (.map #[] 0)) := by simp [Instr.makeMap, go_sem]
  obtain ⟨w1, ew1⟩ : ∃ x, x = w.alloc (.map #[] 0) := ⟨_, rfl⟩
  have hb1 : Below w.heap.size w w1 := by rw [ew1]; exact (Below.refl _ _).alloc (Nat.le_refl _) _
  have hz1 : w.heap.size < w1.heap.size := by rw [ew1]; simp
  have HD1 : Hid (Mp.MapS Tryz.prog 35 w1 w.heap.size ([].map Hd.entL)) := by rw [ew1]; exact Mp.MapS.made Tryz.prog 35 w
  have HM1 := Lib.hid (HM.out.kept (hb1.block m hml))
  have cp : w1.cell? ⟨p, 2, none⟩ = some (.map (some m)) := (HP.out.below' hb1).cell 2
  rw [← ew1] at hmk
  clear ew1 HP
  go_enter Tryz.func22, Tryz.ntmps22
  go_wp2_with (first
    | (at_range; refine Mp.wpList_range rfl _ rfl HM1.out Hd.uHeld rfl ?_; intro w2 HIt hb2 hz2))
  go_frame
  have HS : Hid (Hd.LgS w m w1.heap.size w.heap.size l w2) := ⟨l.map Hd.ent, [], [], by simp, HIt.out, HD1.out.kept (hb2.block _ hz1), by simp, by simp, hb1.trans (hb2.mono hb1.size)⟩
  obtain ⟨q, hq⟩ : ∃ q, q = w1.heap.size := ⟨_, rfl⟩
  obtain ⟨mm, hmm⟩ : ∃ mm, mm = w.heap.size := ⟨_, rfl⟩
  have hmq : mm < q := by omega
  have hmw : w.heap.size ≤ mm := by omega
  rw [← hq, ← hmm] at HS
  rw [← hq, ← hmm]
  have HQ := Lib.hid hmm
  clear HIt hb2 hz2 HM1 hb1 hq HD1 hz1 cp hmk hmm
  go_loopw [4] (fun _ wr => Hid (Hd.LgS w m q mm l wr)) (fun _ wr => Mp.itLeft wr m q)
  case atStart => exact HS.out
  case round =>
    obtain ⟨wx, ewx⟩ : ∃ x, x = wr := ⟨_, rfl⟩
    subst ewx
    obtain ⟨left, dn, D, hp, hIt, hD, hmem, hDl, hbr⟩ := hrel.out
    have hIl := hIt.left_eq
    have HP := Lib.hid hp
    have HIt := Lib.hid hIt
    have HD := Lib.hid hD
    have HMe := Lib.hid hmem
    have HB := Lib.hid hbr
    have hdl : dn.length ≤ l.length := by
      have := hp.length_eq
      simp at this
      omega
    have hqx := hIt.lt
    have hwx := hbr.size
    clear hp hIt hD hmem hbr hrel HS
    go_wp2_with (first
      | (at_next; refine Mp.wpList_next rfl _ rfl rfl HIt.out ?_ ?_))
    · intro hl0
      subst hl0
      have HPm : Hid (dn.Perm l) := (Hd.perm_ent (by simpa using HP.out)).symm
      have HND : Hid D.Nodup := by obtain ⟨es, ck, hb, he, hI, hn, _⟩ := HD.out; exact Hd.nodup_of hn
      have hmmx := HD.out.lt
      obtain ⟨wz, ewz⟩ : ∃ y, y = wx.alloc (.cells #[.map (some mm)] 99) := ⟨_, rfl⟩
      have hbz : Below wx.heap.size wx wz := by rw [ewz]; exact (Below.refl _ _).alloc (Nat.le_refl _) _
      have hsz : wx.heap.size < wz.heap.size := by rw [ewz]; simp
      have cz : wz.cell? ⟨wx.heap.size, 0, none⟩ = some (.map (some mm)) := by rw [ewz]; exact (show Rw.Blk _ _ 99 [.map (some mm)] from heap_alloc_new wx _).cell 0
      have HO := Lib.hid (sortedFunc_any wx.heap.size mm D wz hsz cz (HD.out.kept (hbz.block mm hmmx)) (by omega))
      have HBZ := Lib.hid hbz
      have hzz := hbz.size
      clear HIt HP HD cz hbz
      go_wp2_with (first
        | (go_at_call 37; refine (keys_any mm wx).mono ?_; rintro e w4 ⟨rfl, rfl⟩; rw [← ewz]; clear ewz)
        | (go_at_call 36; refine HO.out.mono ?_; rintro e w5 ⟨v, ls, rfl, hp2, hri2, ho2, hb2'⟩))
      have hr2 := Hd.rising_of hri2 (hp2.nodup_iff.2 HND.out)
      have hb2 := HBZ.out.trans (hb2'.mono hzz)
      go_ret
      refine ⟨v, ls, rfl, fun x => ?_, hr2, ?_, HB.out.trans (hb2.mono hwx)⟩
      · rw [hp2.mem_iff, HMe.out]
        constructor
        · rintro ⟨e, he, h⟩; exact ⟨e, HPm.out.mem_iff.1 he, h⟩
        · rintro ⟨e, he, h⟩; exact ⟨e, HPm.out.mem_iff.2 he, h⟩
      · obtain ⟨g1, g2 | ⟨g, cap, cur, hv, hg, g3⟩⟩ := ho2
        · exact ⟨g1, .inl g2⟩
        · exact ⟨g1, .inr ⟨g, cap, cur, hv, by omega, g3⟩⟩
    · intro k1 v1 left1 w3 hperm x n hx hxe HIt3 hOn hen
      unfold Hd.ent Hd.pv at hxe
      simp only at hxe
      injection hxe with e1 e2
      subst e1 e2
      have hok := (HV.out _ hx).2.leg
      have HB3 : Hid (Below w.heap.size w w3) := HB.out.trans (hOn.below (by omega))
      have hs3 := HB3.out.size
      have hmmx : mm < w3.heap.size := by have := hOn.size; have := hqx.1; omega
      obtain ⟨w4, ew4⟩ : ∃ y, y = w3.alloc (.cells #[.string x.car, .int .i64 x.num, .int .i64 x.day, .int .i64 x.row, .int .u8 x.ltr] 91) := ⟨_, rfl⟩
      have hb4 : Below w3.heap.size w3 w4 := by rw [ew4]; exact (Below.refl _ _).alloc (Nat.le_refl _) _
      have HD4 : Mp.MapS Tryz.prog 35 w4 mm (D.map Hd.entL) := (HD.out.kept (hOn.block mm (by omega))).kept (hb4.block mm hmmx)
      have HK4 : Rw.Blk w4 w3.heap.size 91 [.string x.car, .int .i64 x.num, .int .i64 x.day, .int .i64 x.row, .int .u8 x.ltr] := by rw [ew4]; exact heap_alloc_new w3 _
      have c0 : w4.cell? ⟨w3.heap.size, 0, none⟩ = some (.string x.car) := HK4.cell 0
      have c1 : w4.cell? ⟨w3.heap.size, 1, none⟩ = some (.int .i64 x.num) := HK4.cell 1
      have c2 : w4.cell? ⟨w3.heap.size, 2, none⟩ = some (.int .i64 x.day) := HK4.cell 2
      obtain ⟨w6, l6, hrun, HM6, HO6, HU6⟩ := HD4.upd Hd.lawL (Hd.lv_key (l := x.leg) hok) Hd.uSet (.agg #[])
      obtain ⟨D', rfl, hD1, hD2⟩ := Hd.set_upd HU6
      have hq4 := HIt3.out.lt
      have HIt6 : Hid (Mp.It Tryz.prog 91 w6 m q (l.map Hd.ent) left1) := by
        have h4 := HIt3.out.kept (hb4.block m hq4.2.1) (hb4.block q hq4.1)
        obtain ⟨es, ck, hb, _⟩ := HD4
        obtain ⟨_, _, _, _, _, g1, _, _, _, _, g6, _⟩ := id h4
        refine h4.kept (HO6.block m (fun e => ?_)) (HO6.block q (fun e => by omega))
        have := hml
        have := HQ.out
        omega
      have HF : Hid (Hd.LgS w m q mm l w6) := by
        refine ⟨left1, dn ++ [(x, n)], D', ?_, HIt6.out, HM6, fun y => ?_, ?_, (HB3.out.trans (hb4.mono hs3)).trans (HO6.below hmw)⟩
        · refine HP.out.trans ?_
          rw [List.map_append, List.append_assoc]
          exact List.Perm.append_left _ hperm
        · rw [hD1, HMe.out]
          constructor
          · rintro (⟨e, he, h⟩ | rfl)
            · exact ⟨e, by simp [he], h⟩
            · exact ⟨(x, n), by simp, rfl⟩
          · rintro ⟨e, he, h⟩
            rcases List.mem_append.1 he with he | he
            · exact .inl ⟨e, he, h⟩
            · simp at he
              subst he
              exact .inr h.symm
        · simp; omega
      have hl6 := HIt6.out.left_eq
      have hll : left1.length < left.length := by
        have := hperm.length_eq
        simp at this
        omega
      unfold Hd.lv Hd.K.leg at hrun
      simp only at hrun
      clear hperm hOn hx hok HM6 HO6 HU6 hD1 hD2 HD4 HK4 HIt3 HP HIt HD HB HMe
      rw [ew4] at hrun
      clear ew4 c0 c1 c2
      go_wp2
      go_roundw
      case rel => exact HF.out
      case measure => rw [hl6, hIl]; exact hll
end Go.Proofs.YtfodabbmjggieaaGreat
