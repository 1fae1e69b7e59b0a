/- Maps whose keys are structs, in memory: lists of keys with values, in the order in which they came. -/
import Derived.Test.YtmcekicaigbccaaGreatRows
import Derived.DeepKeys4
import Derived.MapKept
import Derived.Below
namespace Go.Proofs.YtmcekicaigbccaaGreat
open Go.RowKit Go.WideMaps
set_option linter.unusedVariables false

namespace Mp
/-- Only block r has changed. -/
structure Only (r : Nat) (w w' : World) : Prop where
  os : w'.os = w.os
  tape : w'.tape = w.tape
  output : w'.output = w.output
  size : w'.heap.size = w.heap.size
  block : ∀ k, k ≠ r → w'.heap[k]? = w.heap[k]?
theorem Only.below {r B : Nat} {w w' : World} (h : Only r w w') (hB : B ≤ r) : Below B w w' := ⟨h.os, h.tape, h.output, Nat.le_of_eq h.size.symm, fun k hk => h.block k (by omega)⟩
def KeyIs (P : Program) (k : TypeId) (v : Value) : Prop := ∃ l, keyOf P k v = some l
/-- The map at r has just these entries. -/
def MapL (P : Program) (k : TypeId) (w : World) (r : Nat) (l : List (Value × Value)) : Prop :=
  ∃ es ck, w.heap[r]? = some (.map es ck) ∧ es.toList.map (fun e => (e.key, e.val)) = l ∧ (∀ p ∈ l, KeyIs P k p.1)
section
variable {P : Program} {k : TypeId} {w w' : World} {r : Nat} {l : List (Value × Value)}
theorem MapL.lt (h : MapL P k w r l) : r < w.heap.size := by
  obtain ⟨es, ck, hb, _⟩ := h
  rcases Nat.lt_or_ge r w.heap.size with hlt | hge
  · exact hlt
  · rw [Array.getElem?_eq_none hge] at hb; cases hb
theorem MapL.kept (h : MapL P k w r l) (e : w'.heap[r]? = w.heap[r]?) : MapL P k w' r l := by
  obtain ⟨es, ck, hb, h2⟩ := h
  exact ⟨es, ck, e.trans hb, h2⟩
theorem MapL.made (P : Program) (k : TypeId) (w : World) : MapL P k (w.alloc (.map #[] 0)) w.heap.size [] :=
  ⟨#[], 0, (MapKept.heap_alloc w _).1, rfl, by simp⟩
theorem keys_of {es : Array MapEntry} (he : es.toList.map (fun e => (e.key, e.val)) = l) (hk : ∀ p ∈ l, KeyIs P k p.1) : ∀ e ∈ es.toList, ∃ q, keyOf P k e.key = some q := fun e he' => hk (e.key, e.val) (by rw [← he]; exact List.mem_map.2 ⟨e, he', rfl⟩)
theorem MapL.look (K : KeyLaw P k) (h : MapL P k w r l) {key : Value} (hk : KeyIs P k key) {t e : TypeId} (ht : P.underlying t = some (.map k e)) (z : Value) (hz : (zeroValue e).run P w = .ok z w) :
    (∃ (j : Nat) (v : Value), l[j]? = some (key, v) ∧ (Instr.lookup t (.map (some r)) key true).run P w = .ok (.tuple #[v, .bool true]) w) ∨ ((∀ p ∈ l, p.1 ≠ key) ∧ (Instr.lookup t (.map (some r)) key true).run P w = .ok (.tuple #[z, .bool false]) w) := by
  obtain ⟨es, ck, hb, he, hI⟩ := h
  obtain ⟨kl, hkl⟩ := hk
  rcases K.find w hkl es.toList (keys_of he hI) with ⟨h1, h2⟩ | ⟨j, e0, h1, h2, h3⟩
  · right
    refine ⟨fun p hp => ?_, by simp [Instr.lookup, run_underlying ht, MapKept.run_getObj_map hb, K.check w _ hkl, h1, hz]⟩
    rw [← he] at hp
    obtain ⟨e1, g1, g2⟩ := List.mem_map.1 hp
    rw [← g2]
    exact h2 e1 g1
  · left
    refine ⟨j, e0.val, ?_, by simp [Instr.lookup, run_underlying ht, MapKept.run_getObj_map hb, K.check w _ hkl, h1]⟩
    rw [← he, List.getElem?_map, h2, Option.map_some, h3]
theorem heap_setObj (w : World) (r : Nat) (o : Obj) (h : r < w.heap.size) : ({ w with heap := w.heap.setIfInBounds r o } : World).heap[r]? = some o := by
  simp [h]
theorem MapL.upd (K : KeyLaw P k) (h : MapL P k w r l) {key : Value} (hk : KeyIs P k key) {t e : TypeId} (ht : P.underlying t = some (.map k e)) (v : Value) :
    ∃ w' l', (Instr.mapUpdate t (.map (some r)) key v).run P w = .ok () w' ∧ MapL P k w' r l' ∧ Only r w w' ∧ (((∀ p ∈ l, p.1 ≠ key) ∧ l' = l ++ [(key, v)]) ∨ ∃ (j : Nat) (u : Value), l[j]? = some (key, u) ∧ l' = l.set j (key, v)) := by
  have hlt := h.lt
  obtain ⟨es, ck, hb, he, hI⟩ := h
  have hk' := hk
  obtain ⟨kl, hkl⟩ := hk
  have hfr : ∀ o, Only r w ({ w with heap := w.heap.setIfInBounds r o } : World) := fun o =>
    ⟨rfl, rfl, rfl, by simp, fun i hi => by simp only [Array.getElem?_setIfInBounds]; rw [if_neg (fun e => hi e.symm)]⟩
  have hset : ∀ o, (setObj r o).run P w = .ok () ({ w with heap := w.heap.setIfInBounds r o } : World) := fun o => by
    simp [setObj, Sem.run, hb]
  rcases K.find w hkl es.toList (keys_of he hI) with ⟨h1, h2⟩ | ⟨j, e0, h1, h2, h3⟩
  · refine ⟨_, l ++ [(key, v)], by simp [Instr.mapUpdate, run_underlying ht, MapKept.run_getObj_map hb, K.check w _ hkl, h1, hset], ⟨es.push { key := key, val := v, born := ck }, ck + 1, heap_setObj w r _ hlt, ?_, ?_⟩, hfr _, .inl ⟨?_, rfl⟩⟩
    · simp [he]
    · intro p hp
      rcases List.mem_append.1 hp with hp | hp
      · exact hI p hp
      · simp at hp; rw [hp]; exact hk'
    · intro p hp
      rw [← he] at hp
      obtain ⟨e1, g1, g2⟩ := List.mem_map.1 hp
      rw [← g2]
      exact h2 e1 g1
  · have he1 : es[j]? = some e0 := by simpa using h2
    have hstay : (Instr.keyThatStays (((es[j]?).map (·.key)).getD key) key).run P w = .ok key w := by
      rw [he1, Option.map_some, Option.getD_some, h3]
      exact K.stays w hkl
    have hl : l[j]? = some (key, e0.val) := by rw [← he, List.getElem?_map, h2, Option.map_some, h3]
    refine ⟨_, l.set j (key, v), by simp only [Instr.mapUpdate, run_underlying ht, MapKept.run_getObj_map hb, K.check w _ hkl, h1, Sem.run_bind, Result.andThen_ok, hstay, hset], ⟨es.modify j fun e => { e with key := key, val := v }, ck, heap_setObj w r _ hlt, ?_, ?_⟩, hfr _, .inr ⟨j, e0.val, hl, rfl⟩⟩
    · rw [← he]
      apply List.ext_getElem?
      intro i
      simp only [Array.toList_modify, List.getElem?_map, List.getElem?_modify, List.getElem?_set, List.length_map]
      by_cases hij : j = i
      · subst hij
        have hq : j < es.size := by
          rcases Nat.lt_or_ge j es.size with q | q
          · exact q
          · rw [Array.getElem?_eq_none q] at he1; cases he1
        rw [h2]
        simp [hq]
      · simp [hij]
    · intro p hp
      rcases List.mem_or_eq_of_mem_set hp with hp | hp
      · exact hI p hp
      · rw [hp]; exact hk'
end
end Mp
end Go.Proofs.YtmcekicaigbccaaGreat
