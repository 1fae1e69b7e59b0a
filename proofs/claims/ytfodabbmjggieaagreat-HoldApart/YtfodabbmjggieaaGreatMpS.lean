/- Maps in memory with their entries' stamps: laying, dropping, cloning, ranging. -/
import Derived.Test.YtfodabbmjggieaaGreatG1
import Derived.Maps.RangeRun
namespace Go.Proofs.YtfodabbmjggieaaGreat
open Go.RowKit Go.WideMaps
set_option linter.unusedVariables false

namespace Mp
/-- The map at r has just these entries, no key twice. -/
def MapS (P : Program) (k : TypeId) (w : World) (r : Nat) (l : List (Value × Value)) : Prop :=
  ∃ es ck, w.heap[r]? = some (.map es ck) ∧ es.toList.map (fun e => (e.key, e.val)) = l ∧ (∀ p ∈ l, KeyIs P k p.1) ∧ (l.map Prod.fst).Nodup ∧ (∀ e ∈ es.toList, e.born < ck) ∧ (es.toList.map (·.born)).Nodup
section
variable {P : Program} {k : TypeId} {w w' : World} {r : Nat} {l : List (Value × Value)}
theorem MapS.toL (h : MapS P k w r l) : MapL P k w r l := by
  obtain ⟨es, ck, h1, h2, h3, _⟩ := h
  exact ⟨es, ck, h1, h2, h3⟩
theorem MapS.lt (h : MapS P k w r l) : r < w.heap.size := h.toL.lt
theorem MapS.kept (h : MapS P k w r l) (e : w'.heap[r]? = w.heap[r]?) : MapS P k w' r l := by
  obtain ⟨es, ck, hb, h2⟩ := h
  exact ⟨es, ck, e.trans hb, h2⟩
theorem MapS.made (P : Program) (k : TypeId) (w : World) : MapS P k (w.alloc (.map #[] 0)) w.heap.size [] :=
  ⟨#[], 0, (MapKept.heap_alloc w _).1, rfl, by simp, by simp, by simp, by simp⟩
theorem MapS.clone (h : MapS P k w r l) {es : Array MapEntry} {ck : Nat} (hb : w.heap[r]? = some (.map es ck)) : MapS P k (w.alloc (.map es ck)) w.heap.size l := by
  obtain ⟨es', ck', hb', h2⟩ := h
  rw [hb] at hb'
  injection hb' with hb'
  injection hb' with e1 e2
  subst e1 e2
  exact ⟨es, ck, (MapKept.heap_alloc w _).1, h2⟩
theorem MapS.obj (h : MapS P k w r l) : ∃ es ck, w.heap[r]? = some (.map es ck) ∧ es.size = l.length := by
  obtain ⟨es, ck, hb, h2, _⟩ := h
  exact ⟨es, ck, hb, by rw [← h2]; simp⟩
theorem map_erase {α β : Type} (f : α → β) : ∀ (l : List α) (j : Nat), (l.eraseIdx j).map f = (l.map f).eraseIdx j
  | [], _ => by simp
  | _ :: _, 0 => by simp
  | a :: l, j + 1 => by simp [map_erase f l j]
theorem setFrame (w : World) (r : Nat) (o : Obj) : Only r w ({ w with heap := w.heap.setIfInBounds r o } : World) :=
  ⟨rfl, rfl, rfl, by simp, fun i hi => by simp only [Array.getElem?_setIfInBounds]; rw [if_neg (fun e => hi e.symm)]⟩
theorem MapS.upd (K : KeyLaw P k) (h : MapS P k w r l) {key : Value} (hk : KeyIs P k key) {t e : TypeId} (ht : P.underlying t = some (.map k e)) (v : Value) :
    ∃ w' l', (Instr.mapUpdate t (.map (some r)) key v).run P w = .ok () w' ∧ MapS P k w' r l' ∧ Only r w w' ∧ (((∀ p ∈ l, p.1 ≠ key) ∧ l' = l ++ [(key, v)]) ∨ ∃ (j : Nat) (u : Value), l[j]? = some (key, u) ∧ l' = l.set j (key, v)) := by
  have hlt := h.lt
  obtain ⟨es, ck, hb, he, hI, hND, hst, hbn⟩ := h
  have hk' := hk
  obtain ⟨kl, hkl⟩ := hk
  have hset : ∀ o, (setObj r o).run P w = .ok () ({ w with heap := w.heap.setIfInBounds r o } : World) := fun o => by
    simp [setObj, Sem.run, hb]
  rcases K.find w hkl es.toList (keys_of he hI) with ⟨h1, h2⟩ | ⟨j, e0, h1, h2, h3⟩
  · have hno : ∀ p ∈ l, p.1 ≠ key := by
      intro p hp
      rw [← he] at hp
      obtain ⟨e1, g1, g2⟩ := List.mem_map.1 hp
      rw [← g2]
      exact h2 e1 g1
    refine ⟨_, l ++ [(key, v)], by simp [Instr.mapUpdate, run_underlying ht, MapKept.run_getObj_map hb, K.check w _ hkl, h1, hset], ⟨es.push { key := key, val := v, born := ck }, ck + 1, heap_setObj w r _ hlt, ?_, ?_, ?_, ?_, ?_⟩, setFrame _ _ _, .inl ⟨hno, rfl⟩⟩
    · simp [he]
    · intro p hp
      rcases List.mem_append.1 hp with hp | hp
      · exact hI p hp
      · simp at hp; rw [hp]; exact hk'
    · rw [List.map_append, List.nodup_append]
      refine ⟨hND, by simp, fun a ha b hb => ?_⟩
      simp at hb
      subst hb
      obtain ⟨p, hp, rfl⟩ := List.mem_map.1 ha
      exact hno p hp
    · intro x hx
      simp at hx
      rcases hx with hx | rfl
      · have := hst x (by simpa using hx); omega
      · simp
    · simp only [Array.toList_push, List.map_append, List.map_cons, List.map_nil]
      rw [List.nodup_append]
      refine ⟨hbn, by simp, fun a ha b hb => ?_⟩
      simp at hb
      subst hb
      obtain ⟨x, hx, rfl⟩ := List.mem_map.1 ha
      have := hst x hx
      omega
  · have he1 : es[j]? = some e0 := by simpa using h2
    have hstay : (Instr.keyThatStays (((es[j]?).map (·.key)).getD key) key).run P w = .ok key w := by
      rw [he1, Option.map_some, Option.getD_some, h3]
      exact K.stays w hkl
    have hl : l[j]? = some (key, e0.val) := by rw [← he, List.getElem?_map, h2, Option.map_some, h3]
    have hq : j < es.size := by
      rcases Nat.lt_or_ge j es.size with q | q
      · exact q
      · rw [Array.getElem?_eq_none q] at he1; cases he1
    have hbm : (es.modify j fun e => { e with key := key, val := v }).toList.map (·.born) = es.toList.map (·.born) := by
      apply List.ext_getElem?
      intro i
      simp only [Array.toList_modify, List.getElem?_map, List.getElem?_modify]
      by_cases hij : j = i
      · subst hij; rw [h2]; simp
      · simp [hij]
    refine ⟨_, l.set j (key, v), by simp only [Instr.mapUpdate, run_underlying ht, MapKept.run_getObj_map hb, K.check w _ hkl, h1, Sem.run_bind, Result.andThen_ok, hstay, hset], ⟨es.modify j fun e => { e with key := key, val := v }, ck, heap_setObj w r _ hlt, ?_, ?_, ?_, ?_, ?_⟩, setFrame _ _ _, .inr ⟨j, e0.val, hl, rfl⟩⟩
    · rw [← he]
      apply List.ext_getElem?
      intro i
      simp only [Array.toList_modify, List.getElem?_map, List.getElem?_modify, List.getElem?_set, List.length_map]
      by_cases hij : j = i
      · subst hij
        rw [h2]
        simp [hq]
      · simp [hij]
    · intro p hp
      rcases List.mem_or_eq_of_mem_set hp with hp | hp
      · exact hI p hp
      · rw [hp]; exact hk'
    · have : (l.set j (key, v)).map Prod.fst = l.map Prod.fst := by
        apply List.ext_getElem?
        intro i
        simp only [List.getElem?_map, List.getElem?_set]
        by_cases hij : j = i
        · subst hij
          rw [hl]
          simp [(List.getElem?_eq_some_iff.1 hl).1]
        · simp [hij]
      rw [this]; exact hND
    · intro x hx
      have hx2 : x.born ∈ (es.modify j fun e => { e with key := key, val := v }).toList.map (·.born) := List.mem_map.2 ⟨x, hx, rfl⟩
      rw [hbm] at hx2
      obtain ⟨y, hy, e⟩ := List.mem_map.1 hx2
      rw [← e]
      exact hst y hy
    · rw [hbm]; exact hbn
theorem MapS.del (K : KeyLaw P k) (h : MapS P k w r l) {key : Value} (hk : KeyIs P k key) {t e : TypeId} (ht : P.underlying t = some (.map k e)) (ty : TypeId) :
    ∃ w' l', (Builtin.delete_ #[t, k] ty #[.map (some r), key]).run P w = .ok (.tuple #[]) w' ∧ MapS P k w' r l' ∧ Only r w w' ∧ l'.Sublist l ∧ ∀ p, p ∈ l' ↔ (p ∈ l ∧ p.1 ≠ key) := by
  have hlt := h.lt
  obtain ⟨es, ck, hb, he, hI, hND, hst, hbn⟩ := h
  have hk' := hk
  obtain ⟨kl, hkl⟩ := hk
  rcases K.find w hkl es.toList (keys_of he hI) with ⟨h1, h2⟩ | ⟨j, e0, h1, h2, h3⟩
  · have hno : ∀ p ∈ l, p.1 ≠ key := by
      intro p hp
      rw [← he] at hp
      obtain ⟨e1, g1, g2⟩ := List.mem_map.1 hp
      rw [← g2]
      exact h2 e1 g1
    refine ⟨{ w with heap := w.heap.setIfInBounds r (.map es ck) }, l, by simp [Builtin.delete_, run_underlying ht, MapKept.run_getObj_map hb, K.check w _ hkl, h1, MapKept.run_setObj_map _ hb, Result.andThen], ⟨es, ck, heap_setObj w r _ hlt, he, hI, hND, hst, hbn⟩, setFrame _ _ _, List.Sublist.refl _, fun p => ⟨fun hp => ⟨hp, hno p hp⟩, fun hp => hp.1⟩⟩
  · have hjl : j < es.toList.length := (List.getElem?_eq_some_iff.1 h2).1
    have hjs : j < es.size := by simpa using hjl
    have hsub : (es.eraseIdxIfInBounds j).toList = es.toList.eraseIdx j := by
      unfold Array.eraseIdxIfInBounds
      rw [dif_pos hjs]
      simp
    have hmap : (es.eraseIdxIfInBounds j).toList.map (fun e => (e.key, e.val)) = l.eraseIdx j := by
      rw [hsub, ← he]
      exact map_erase _ _ _
    have hl : l[j]? = some (key, e0.val) := by rw [← he, List.getElem?_map, h2, Option.map_some, h3]
    have hsl : (l.eraseIdx j).Sublist l := List.eraseIdx_sublist _ _
    refine ⟨{ w with heap := w.heap.setIfInBounds r (.map (es.eraseIdxIfInBounds j) ck) }, l.eraseIdx j, by simp [Builtin.delete_, run_underlying ht, MapKept.run_getObj_map hb, K.check w _ hkl, h1, MapKept.run_setObj_map _ hb, Result.andThen], ⟨es.eraseIdxIfInBounds j, ck, heap_setObj w r _ hlt, hmap, fun p hp => hI p (hsl.subset hp), hND.sublist (hsl.map _), fun x hx => ?_, ?_⟩, setFrame _ _ _, hsl, fun p => ?_⟩
    · rw [hsub] at hx
      exact hst x ((List.eraseIdx_sublist _ _).subset hx)
    · rw [hsub]
      exact hbn.sublist ((List.eraseIdx_sublist _ _).map _)
    · rw [List.mem_eraseIdx_iff_getElem?]
      constructor
      · rintro ⟨i, hne, hi⟩
        refine ⟨List.mem_of_getElem? hi, fun e => hne ?_⟩
        have hi1 : i < (l.map Prod.fst).length := by simpa using (List.getElem?_eq_some_iff.1 hi).1
        have hj1 : j < (l.map Prod.fst).length := by simpa using (List.getElem?_eq_some_iff.1 hl).1
        have g1 : (l.map Prod.fst)[i] = key := by
          have := (List.getElem?_eq_some_iff.1 hi).2
          simp [this, e]
        have g2 : (l.map Prod.fst)[j] = key := by
          have := (List.getElem?_eq_some_iff.1 hl).2
          simp [this]
        rcases Nat.lt_trichotomy i j with h | h | h
        · exact absurd (g1.trans g2.symm) (List.pairwise_iff_getElem.1 hND i j hi1 hj1 h)
        · exact h
        · exact absurd (g2.trans g1.symm) (List.pairwise_iff_getElem.1 hND j i hj1 hi1 h)
      · rintro ⟨hp, hne⟩
        obtain ⟨i, hi, e⟩ := List.getElem_of_mem hp
        refine ⟨i, fun h => hne ?_, by rw [List.getElem?_eq_getElem hi, e]⟩
        subst h
        rw [List.getElem?_eq_getElem hi, e] at hl
        injection hl with hl
        rw [hl]
/-- An iterator at q over the map at r: these entries are still to come. -/
def It (P : Program) (k : TypeId) (w : World) (r q : Nat) (l left : List (Value × Value)) : Prop :=
  ∃ es ck since seen c0, w.heap[r]? = some (.map es ck) ∧ es.toList.map (fun e => (e.key, e.val)) = l ∧ (∀ p ∈ l, KeyIs P k p.1) ∧ (es.toList.map (·.born)).Nodup ∧ (∀ e ∈ es.toList, e.born < since) ∧
    w.heap[q]? = some (.mapIter (some r) since seen c0) ∧ since ≤ c0 ∧ since ≤ ck ∧ left = (leftOf es seen).toList.map (fun e => (e.key, e.val))
theorem It.kept {q : Nat} {left : List (Value × Value)} (h : It P k w r q l left) (e1 : w'.heap[r]? = w.heap[r]?) (e2 : w'.heap[q]? = w.heap[q]?) : It P k w' r q l left := by
  obtain ⟨es, ck, since, seen, c0, h1, h2, h3, h4, h5, h6, h7⟩ := h
  exact ⟨es, ck, since, seen, c0, e1.trans h1, h2, h3, h4, h5, e2.trans h6, h7⟩
theorem It.lt {q : Nat} {left : List (Value × Value)} (h : It P k w r q l left) : q < w.heap.size ∧ r < w.heap.size ∧ q ≠ r := by
  obtain ⟨es, ck, since, seen, c0, h1, h2, h3, h4, h5, h6, h7⟩ := h
  refine ⟨(Array.getElem?_eq_some_iff.1 h6).1, (Array.getElem?_eq_some_iff.1 h1).1, fun e => ?_⟩
  subst e
  rw [h1] at h6
  cases h6
theorem MapS.range {t e : TypeId} (h : MapS P k w r l) (ht : P.underlying t = some (.map k e)) :
    ∃ w', (Instr.range t (.map (some r))).run P w = .ok (.pointer (some ⟨w.heap.size, 0, none⟩)) w' ∧ It P k w' r w.heap.size l l ∧ Below w.heap.size w w' ∧ w.heap.size < w'.heap.size := by
  have hlt := h.lt
  obtain ⟨es, ck, hb, he, hI, hND, hst, hbn⟩ := h
  refine ⟨_, run_range_map w t k e r es ck ht hb, ⟨es, ck, ck, #[], ck, ((MapKept.heap_alloc w _).2 r hlt).trans hb, he, hI, hbn, hst, (MapKept.heap_alloc w _).1, Nat.le_refl _, Nat.le_refl _, ?_⟩, (Below.refl _ _).alloc (Nat.le_refl _) _, by simp⟩
  rw [← he]
  unfold leftOf
  rw [Array.toList_filter, List.filter_eq_self.2 (fun x _ => by simp)]
theorem perm_filter {es : List MapEntry} (hn : (es.map (·.born)).Nodup) {e : MapEntry} (he : e ∈ es) : es.Perm (e :: es.filter (fun x => !(x.born == e.born))) := by
  induction es with
  | nil => cases he
  | cons a l ih =>
    simp only [List.map_cons, List.nodup_cons] at hn
    rcases List.mem_cons.1 he with rfl | he
    · have : l.filter (fun x => !(x.born == e.born)) = l := by
        rw [List.filter_eq_self]
        intro x hx
        have : x.born ≠ e.born := fun h => hn.1 (List.mem_map.2 ⟨x, hx, h⟩)
        simp [this]
      simp [this]
    · have hne : a.born ≠ e.born := fun h => hn.1 (List.mem_map.2 ⟨e, he, h.symm⟩)
      rw [List.filter_cons_of_pos (by simp [hne])]
      exact ((ih hn.2 he).cons a).trans (List.Perm.swap _ _ _)
theorem left_push (es : Array MapEntry) (seen : Array Nat) (e : MapEntry) : (leftOf es (seen.push e.born)).toList = (leftOf es seen).toList.filter (fun x => !(x.born == e.born)) := by
  unfold leftOf
  rw [Array.toList_filter, Array.toList_filter, List.filter_filter]
  apply List.filter_congr
  intro x _
  have : (seen.push e.born).contains x.born = (seen.contains x.born || (x.born == e.born)) := by
    rw [Bool.eq_iff_iff]
    simp only [Array.contains_iff_mem, Array.mem_push, Bool.or_eq_true, beq_iff_eq]
  rw [this]
  cases seen.contains x.born <;> cases (x.born == e.born) <;> rfl
/-- The step: nothing is left; or one that is left comes, whichever the tape says. -/
theorem It.next {q : Nat} {left : List (Value × Value)} (h : It P k w r q l left) (ty : TypeId) :
    (left = [] ∧ (Instr.next (.pointer (some ⟨q, 0, none⟩)) false ty).run P w = .ok (.tuple #[.bool false]) w) ∨
    ∃ (p : Value × Value) (left' : List (Value × Value)) (w' : World), left.Perm (p :: left') ∧ KeyIs P k p.1 ∧ p ∈ l ∧ (Instr.next (.pointer (some ⟨q, 0, none⟩)) false ty).run P w = .ok (.tuple #[.bool true, p.1, p.2]) w' ∧ It P k w' r q l left' ∧ Only q w w' ∧
      (Instr.entry (.pointer (some ⟨q, 0, none⟩))).run P w' = .ok (.tuple #[p.1, p.2]) w' := by
  obtain ⟨h0, h00, hne⟩ := h.lt
  obtain ⟨es, ck, since, seen, c0, hb, he, hI, hbn, hold, hr, hsc, hsk, rfl⟩ := h
  rcases run_next_at (P := P) w ty q r since c0 seen es ck hr hb hold hsc with ⟨hz, hrun⟩ | ⟨e, hel, w1, hal, hrun⟩
  · left
    exact ⟨by rw [Array.eq_empty_of_size_eq_zero hz]; rfl, hrun⟩
  · right
    obtain ⟨hem, hes⟩ := mem_left hel
    have hr1 : w1.heap[q]? = some (.mapIter (some r) since seen c0) := by rcases hal with rfl | rfl <;> exact hr
    have hb1 : w1.heap[r]? = some (.map es ck) := by rcases hal with rfl | rfl <;> exact hb
    have hq1 : q < w1.heap.size := (Array.getElem?_eq_some_iff.1 hr1).1
    have hOn : Only q w1 ({ w1 with heap := w1.heap.setIfInBounds q (.mapIter (some r) since (seen.push e.born) ck) } : World) := setFrame _ _ _
    have hOn2 : Only q w ({ w1 with heap := w1.heap.setIfInBounds q (.mapIter (some r) since (seen.push e.born) ck) } : World) := by
      rcases hal with rfl | rfl
      · exact hOn
      · exact ⟨hOn.os, hOn.tape, hOn.output, hOn.size, hOn.block⟩
    have hb' := (hOn.block r (fun e => hne e.symm)).trans hb1
    have hr' : ({ w1 with heap := w1.heap.setIfInBounds q (.mapIter (some r) since (seen.push e.born) ck) } : World).heap[q]? = some (.mapIter (some r) since (seen.push e.born) ck) := heap_setObj w1 q _ hq1
    have hmp : (e.key, e.val) ∈ l := by rw [← he]; exact List.mem_map.2 ⟨e, hem, rfl⟩
    refine ⟨(e.key, e.val), _, _, ?_, hI _ hmp, hmp, hrun, ⟨es, ck, since, seen.push e.born, ck, hb', he, hI, hbn, hold, hr', hsk, hsk, rfl⟩, hOn2, run_entry_at _ q r since seen es ck e hr' hb' hem hbn⟩
    rw [left_push]
    have hnl : ((leftOf es seen).toList.map (·.born)).Nodup := by
      unfold leftOf
      rw [Array.toList_filter]
      exact hbn.sublist (List.filter_sublist.map _)
    exact (perm_filter hnl hel).map (fun e => (e.key, e.val))
end
end Mp
end Go.Proofs.YtfodabbmjggieaaGreat
