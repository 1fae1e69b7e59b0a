/- Contract of put. -/
import Derived.Test.YtmcekicaigbccaaGreatStSold
namespace Go.Proofs.YtmcekicaigbccaaGreat
open Go.RowKit Go.WideMaps
set_option linter.unusedVariables false

namespace St
/-- So many are sold of k, and of all others what was. -/
def Puts (l l' : List (K × Int)) (k : K) (n : Int) : Prop := ∀ k', sold l' k' = if k' = k then n else sold l k'
def PutIs (w : World) (Bt p t m : Nat) (rs : List Fl.R) (l : List (K × Int)) (k : K) (n : Int) (w' : World) : Prop :=
  ∃ l', At w' Bt p t m rs l' ∧ Puts l l' k n ∧ Rw.Fr (· = m) w w'
theorem ents_map {l : List (K × Int)} {l' : List (Value × Value)} (h : l'.Sublist (l.map ent)) : ∃ l2 : List (K × Int), l2.Sublist l ∧ l' = l2.map ent := by
  obtain ⟨l2, h1, h2⟩ := List.sublist_map_iff.1 h
  exact ⟨l2, h1, h2⟩
theorem put_del {w w' : World} {Bt p t m : Nat} {rs : List Fl.R} {l : List (K × Int)} {k : K} (h : At w Bt p t m rs l) {w6 : World} (hb : Below w.heap.size w w6) {l' : List (Value × Value)} (hM : Mp.MapS Tryz.prog 77 w' m l') (hO : Mp.Only m w6 w') (hs : l'.Sublist (l.map ent)) (hmem : ∀ p, p ∈ l' ↔ (p ∈ l.map ent ∧ p.1 ≠ pv k)) : PutIs w Bt p t m rs l k 0 w' := by
  obtain ⟨l2, h1, rfl⟩ := ents_map hs
  have h6 := h.kept hb
  have hf : Rw.Fr (· = m) w6 w' := ⟨hO.os, hO.tape, hO.output, Nat.le_of_eq hO.size.symm, fun j _ hj => hO.block j hj⟩
  have hA : At w' Bt p t m rs l2 := ⟨h6.tab.fr hf (fun j hj => by have : j = m := hj; subst this; exact h.lom), h6.blk.kept (hf.block p h6.blk.lt h.ne), hM, h.lop, h.lom, fun e he => h.val e (h1.subset he), h.right, h.few⟩
  have hm2 : ∀ e, e ∈ l2 ↔ (e ∈ l ∧ e.1 ≠ k) := fun e => by
    constructor
    · intro he
      have := (hmem (ent e)).1 (List.mem_map.2 ⟨e, he, rfl⟩)
      exact ⟨h1.subset he, fun e1 => this.2 (by unfold ent; rw [e1])⟩
    · rintro ⟨he, hne⟩
      obtain ⟨e2, he2, e3⟩ := List.mem_map.1 ((hmem (ent e)).2 ⟨List.mem_map.2 ⟨e, he, rfl⟩, fun e1 => hne (pv_inj e1)⟩)
      unfold ent at e3
      injection e3 with e4 e5
      have e6 := pv_inj e4
      injection e5 with _ e7
      have : e2 = e := Prod.ext e6 e7
      subst this; exact he2
  refine ⟨l2, hA, fun k' => ?_, (Rw.Fr.of_below hb).trans hf (fun _ _ e => e)⟩
  by_cases hk : k' = k
  · subst hk
    rw [if_pos rfl]
    exact sold_non fun e he => ((hm2 e).1 he).2
  · rw [if_neg hk]
    rcases sold_cases l k' with g | ⟨g, g2⟩
    · exact sold_mem hA.nod ((hm2 _).2 ⟨g, hk⟩)
    · rw [g2]
      exact sold_non fun e he => g e ((hm2 e).1 he).1
theorem put_upd {w w' : World} {Bt p t m : Nat} {rs : List Fl.R} {l : List (K × Int)} {k : K} {n : Int} (h : At w Bt p t m rs l) (hk : OkK k) (hn : 0 < n) (hn2 : n ≤ lvl rs k) {w6 : World} (hb : Below w.heap.size w w6) {l' : List (Value × Value)} (hM : Mp.MapS Tryz.prog 77 w' m l') (hO : Mp.Only m w6 w')
    (hU : ((∀ p ∈ l.map ent, p.1 ≠ pv k) ∧ l' = l.map ent ++ [(pv k, .int .i64 n)]) ∨ ∃ (j : Nat) (u : Value), (l.map ent)[j]? = some (pv k, u) ∧ l' = (l.map ent).set j (pv k, .int .i64 n)) : PutIs w Bt p t m rs l k n w' := by
  have h6 := h.kept hb
  have hf : Rw.Fr (· = m) w6 w' := ⟨hO.os, hO.tape, hO.output, Nat.le_of_eq hO.size.symm, fun j _ hj => hO.block j hj⟩
  have hfin : ∀ l2 : List (K × Int), l' = l2.map ent → (∀ e ∈ l2, e ∈ l ∧ e.1 ≠ k ∨ e = (k, n)) → (k, n) ∈ l2 → (∀ e ∈ l, e.1 ≠ k → e ∈ l2) → PutIs w Bt p t m rs l k n w' := by
    intro l2 e2 g1 g2 g3
    subst e2
    have hA : At w' Bt p t m rs l2 := ⟨h6.tab.fr hf (fun j hj => by have : j = m := hj; subst this; exact h.lom), h6.blk.kept (hf.block p h6.blk.lt h.ne), hM, h.lop, h.lom, fun e he => by
      rcases g1 e he with ⟨g, _⟩ | rfl
      · exact h.val e g
      · exact ⟨hn, hn2, hk⟩, h.right, h.few⟩
    refine ⟨l2, hA, fun k' => ?_, (Rw.Fr.of_below hb).trans hf (fun _ _ e => e)⟩
    by_cases hk : k' = k
    · subst hk
      rw [if_pos rfl]
      exact sold_mem hA.nod g2
    · rw [if_neg hk]
      rcases sold_cases l k' with g | ⟨g, g4⟩
      · exact sold_mem hA.nod (g3 _ g hk)
      · rw [g4]
        refine sold_non fun e he => ?_
        rcases g1 e he with ⟨g5, _⟩ | rfl
        · exact g e g5
        · exact fun e1 => hk e1.symm
  rcases hU with ⟨h1, h2⟩ | ⟨j, u, h1, h2⟩
  · refine hfin (l ++ [(k, n)]) (by rw [h2]; simp [ent]) (fun e he => ?_) (by simp) (fun e he _ => by simp [he])
    rcases List.mem_append.1 he with he | he
    · exact .inl ⟨he, fun e1 => h1 _ (List.mem_map.2 ⟨e, he, rfl⟩) (by unfold ent; rw [e1])⟩
    · simp at he; exact .inr he
  · have hj : j < l.length := by have := (List.getElem?_eq_some_iff.1 h1).1; simpa using this
    have hjk : l[j].1 = k := by
      have := (List.getElem?_eq_some_iff.1 h1).2
      simp [ent] at this
      exact pv_inj this.1
    have hnd := h.nod
    refine hfin (l.set j (k, n)) (by rw [h2, List.map_set]; simp [ent]) (fun e he => ?_) ?_ (fun e he hne => ?_)
    · obtain ⟨i, hi, e1⟩ := List.getElem_of_mem he
      rw [List.getElem_set] at e1
      by_cases hij : j = i
      · rw [if_pos hij] at e1; exact .inr e1.symm
      · rw [if_neg hij] at e1
        have hi2 : i < l.length := by simpa using hi
        refine .inl ⟨e1 ▸ List.getElem_mem hi2, fun e3 => ?_⟩
        have a1 : i < (l.map Prod.fst).length := by simpa using hi2
        have a2 : j < (l.map Prod.fst).length := by simpa using hj
        have e5 : (l.map Prod.fst)[i] = (l.map Prod.fst)[j] := by simp [e1, e3, hjk]
        rcases Nat.lt_trichotomy i j with h | h | h
        · exact List.pairwise_iff_getElem.1 hnd i j a1 a2 h e5
        · exact hij h.symm
        · exact List.pairwise_iff_getElem.1 hnd j i a2 a1 h e5.symm
    · exact List.mem_iff_getElem.2 ⟨j, by simpa using hj, by simp⟩
    · obtain ⟨i, hi, e1⟩ := List.getElem_of_mem he
      refine List.mem_iff_getElem.2 ⟨i, by simpa using hi, ?_⟩
      rw [List.getElem_set, if_neg]
      · exact e1
      · intro hij
        subst hij
        exact hne (by rw [← e1]; exact hjk)
end St
set_option maxHeartbeats 1000000 in
set_option maxRecDepth 20000 in
theorem put_any (Bt p t m : Nat) (rs : List Fl.R) (l : List (St.K × Int)) (k : St.K) (n : Int) (w : World) (h : St.At w Bt p t m rs l) (hk : St.OkK k) (h0 : 0 ≤ n) (h1 : n ≤ St.lvl rs k) :
    Calls Tryz.prog 44 #[.pointer (some ⟨p, 0, none⟩), .agg #[.string k.car, .int .i64 k.num, .int .i64 k.day, .int .u8 k.cls], .int .i64 n] w fun e w' => e = .returned (.tuple #[]) ∧ St.PutIs w Bt p t m rs l k n w' := by
  have hml := h.map.lt
  have hpl := h.blk.lt
  have HP := Lib.hid h.blk
  obtain ⟨w1, ew1⟩ : ∃ x, x = w.alloc (.cells #[.string k.car, .int .i64 k.num, .int .i64 k.day, .int .u8 k.cls] 77) := ⟨_, rfl⟩
  have hb1 : Below w.heap.size w w1 := by rw [ew1]; exact (Below.refl _ _).alloc (Nat.le_refl _) _
  have K1 : Rw.Blk w1 w.heap.size 77 [.string k.car, .int .i64 k.num, .int .i64 k.day, .int .u8 k.cls] := by rw [ew1]; exact heap_alloc_new w _
  have q0 : w1.cell? ⟨w.heap.size, 0, none⟩ = some (.string k.car) := K1.cell 0
  have q1 : w1.cell? ⟨w.heap.size, 1, none⟩ = some (.int .i64 k.num) := K1.cell 1
  have q2 : w1.cell? ⟨w.heap.size, 2, none⟩ = some (.int .i64 k.day) := K1.cell 2
  have q3 : w1.cell? ⟨w.heap.size, 3, none⟩ = some (.int .u8 k.cls) := K1.cell 3
  have q4 : w1.cell? ⟨p, 1, none⟩ = some (.map (some m)) := (HP.out.below' hb1).cell 1
  have HM1 : Mp.MapS Tryz.prog 77 w1.drew m (l.map St.ent) := h.map.kept (hb1.block m hml)
  have hbd : Below w.heap.size w w1.drew := hb1.drew
  by_cases hn : n = 0
  · subst hn
    obtain ⟨w6, l6, hrun, HM6, HO6, HS6, HI6⟩ := HM1.del St.lawP (St.pv_key hk) St.uSold 0
    have HF := Lib.hid (St.put_del h hbd HM6 HO6 HS6 HI6)
    unfold St.pv at hrun
    clear HM1 HM6 HO6 HS6 HI6 K1 h hk
    go_enter Tryz.func44, Tryz.ntmps44
    go_wp2
    rw [← ew1]
    clear ew1
    go_region
    all_goals go_wp2
    all_goals (refine bodyPost_ret (results_none rfl _ _ _) rfl ?_)
    all_goals exact ⟨rfl, HF.out⟩
  · have hne : (n == 0) = false := by simp [hn]
    obtain ⟨w6, l6, hrun, HM6, HO6, HU6⟩ := HM1.upd St.lawP (St.pv_key hk) St.uSold (.int .i64 n)
    have HF := Lib.hid (St.put_upd h hk (by omega) h1 hbd HM6 HO6 HU6)
    unfold St.pv at hrun
    clear HM1 HM6 HO6 HU6 K1 h hk hn
    go_enter Tryz.func44, Tryz.ntmps44
    go_wp2
    rw [← ew1]
    clear ew1
    go_region
    all_goals go_wp2
    all_goals go_end0
    all_goals exact ⟨rfl, HF.out⟩
end Go.Proofs.YtmcekicaigbccaaGreat
