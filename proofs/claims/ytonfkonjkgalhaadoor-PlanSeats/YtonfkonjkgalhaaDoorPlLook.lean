/- What is found in a map of seats. -/
import Derived.Test.YtonfkonjkgalhaaDoorPlMap
namespace Go.Proofs.YtonfkonjkgalhaaDoor
open Go.RowKit Go.WideMaps
set_option linter.unusedVariables false

namespace Pl
def num (p : P) (s : S) : Int := if s ∈ all p then ((all p).idxOf s : Nat) else -1
def hasS (p : P) (s : S) : Bool := (all p).contains s && !p.bl.contains s
def mkS (p : P) (s : S) : ByteArray := if hasS p s then marks p s.1 ((Cd.bs p.lt).idxOf s.2) else ⟨#[]⟩
theorem nodup_inj {α : Type} : ∀ {l : List α} {i j : Nat} (hi : i < l.length) (hj : j < l.length), l.Nodup → l[i] = l[j] → i = j := by
  intro l i j hi hj hn e
  rcases Nat.lt_trichotomy i j with h | h | h
  · exact absurd e (List.pairwise_iff_getElem.1 hn i j hi hj h)
  · exact h
  · exact absurd e.symm (List.pairwise_iff_getElem.1 hn j i hj hi h)
theorem idxOf_at {α : Type} [BEq α] [LawfulBEq α] {l : List α} {j : Nat} (hj : j < l.length) (hn : l.Nodup) : l.idxOf l[j] = j := by
  have h1 : l.idxOf l[j] < l.length := List.idxOf_lt_length_of_mem (List.getElem_mem hj)
  exact nodup_inj h1 hj hn (List.getElem_idxOf h1)
theorem bt_at (s : ByteArray) (i : Nat) (h : i < (Cd.bs s).length) : (Cd.bs s)[i] = Cd.bt s i := by
  unfold Cd.bt
  rw [List.getD_eq_getElem?_getD, List.getElem?_eq_getElem h]
  rfl
theorem cols_mem {p : P} {i : Nat} : i ∈ cols p ↔ i < p.lt.size ∧ Cd.bt p.lt i ≠ 46 := by
  simp [cols, colsTo]
theorem cols_inj {p : P} (h : lettersOk p.lt = true) {i j : Nat} (hi : i ∈ cols p) (hj : j ∈ cols p) (e : Cd.bt p.lt i = Cd.bt p.lt j) : i = j := by
  have h1 := (lets_ok h).1
  rw [← lets_cols, List.pairwise_map] at h1
  obtain ⟨a, ha, rfl⟩ := List.getElem_of_mem hi
  obtain ⟨b, hb, rfl⟩ := List.getElem_of_mem hj
  rcases Nat.lt_trichotomy a b with h | h | h
  · have := List.pairwise_iff_getElem.1 h1 a b ha hb h; omega
  · simp [h]
  · have := List.pairwise_iff_getElem.1 h1 b a hb ha h; omega
theorem col_ix {p : P} (h : lettersOk p.lt = true) {i : Nat} (hi : i ∈ cols p) : (Cd.bs p.lt).idxOf (Cd.bt p.lt i) = i := by
  obtain ⟨h1, h2⟩ := cols_mem.1 hi
  have hl : i < (Cd.bs p.lt).length := by rw [Cd.length_bs]; exact h1
  have hm : Cd.bt p.lt i ∈ Cd.bs p.lt := by rw [← bt_at _ _ hl]; exact List.getElem_mem hl
  have h3 := List.idxOf_lt_length_of_mem hm
  have h4 := List.getElem_idxOf h3
  rw [bt_at] at h4
  refine cols_inj h (cols_mem.2 ⟨by rwa [Cd.length_bs] at h3, by rw [h4]; exact h2⟩) hi h4
theorem pls_mem {p : P} {q : Int × Nat} (h : q ∈ pls p) : q.2 ∈ cols p := by
  unfold pls upto at h
  rw [List.mem_flatMap] at h
  obtain ⟨j, _, hq⟩ := h
  obtain ⟨i, hi, rfl⟩ := List.mem_map.1 hq
  exact hi
theorem all_get (p : P) (j : Nat) (hj : j < (pls p).length) (hl : j < (all p).length) : (all p)[j] = seatOf p (pls p)[j] := by simp only [all, List.getElem_map]
theorem num_at {p : P} (h : lettersOk p.lt = true) {j : Nat} (hj : j < (pls p).length) : num p (seatOf p (pls p)[j]) = j := by
  have hl : j < (all p).length := by unfold all; rwa [List.length_map]
  have e : seatOf p (pls p)[j] = (all p)[j] := (all_get p j hj hl).symm
  unfold num
  rw [e, if_pos (List.getElem_mem hl), idxOf_at hl (all_nodup h)]
theorem mkq_at {p : P} (h : lettersOk p.lt = true) {j : Nat} (hj : j < (pls p).length) : mkq p (pls p)[j] = mkS p (seatOf p (pls p)[j]) := by
  have hl : j < (all p).length := by unfold all; rwa [List.length_map]
  have e : seatOf p (pls p)[j] = (all p)[j] := (all_get p j hj hl).symm
  have h1 : (all p).contains (seatOf p (pls p)[j]) = true := by rw [e]; simp
  unfold mkq mkS hasS
  rw [h1]
  cases hb : p.bl.contains (seatOf p (pls p)[j])
  · simp only [Bool.not_false, Bool.and_self, if_true]
    have := col_ix h (pls_mem (List.getElem_mem hj))
    unfold seatOf
    simp only
    rw [this]
    rfl
  · simp
end Pl
namespace Mp
theorem MapL.look1 {P : Program} {k : TypeId} {w : World} {r : Nat} {l : List (Value × Value)} (K : KeyLaw P k) (h : MapL P k w r l) {key : Value} (hk : KeyIs P k key) {t e : TypeId} (ht : P.underlying t = some (.map k e)) (z : Value) (hz : (zeroValue e).run P w = .ok z w) :
    (∃ (j : Nat) (v : Value), l[j]? = some (key, v) ∧ (Instr.lookup t (.map (some r)) key false).run P w = .ok v w) ∨ ((∀ p ∈ l, p.1 ≠ key) ∧ (Instr.lookup t (.map (some r)) key false).run P w = .ok z w) := by
  obtain ⟨es, ck, hb, he, hI⟩ := h
  obtain ⟨kl, hkl⟩ := hk
  rcases K.find w hkl es.toList (keys_of he hI) with ⟨h1, h2⟩ | ⟨j, e0, h1, h2, h3⟩
  · right
    refine ⟨fun p hp => ?_, by simp [Instr.lookup, run_underlying ht, MapKept.run_getObj_map hb, K.check w _ hkl, h1, hz]⟩
    rw [← he] at hp
    obtain ⟨e1, g1, g2⟩ := List.mem_map.1 hp
    rw [← g2]
    exact h2 e1 g1
  · left
    refine ⟨j, e0.val, ?_, by simp [Instr.lookup, run_underlying ht, MapKept.run_getObj_map hb, K.check w _ hkl, h1]⟩
    rw [← he, List.getElem?_map, h2, Option.map_some, h3]
end Mp
namespace Pl
/-- What a look at the map finds. -/
def Found (p : P) (s : S) (n : Int) (bq there : Bool) (t : ByteArray) : Prop := there = (all p).contains s ∧ (there = true → n = num p s ∧ bq = p.bl.contains s) ∧ t = mkS p s
theorem look {w : World} {m : Nat} {p : P} (hl : lettersOk p.lt = true) (h : Mp.MapL Tryd.prog 23 w m (ent p (pls p))) {s : S} (hs : WS s) :
    ∃ (n : Int) (bq there : Bool) (t : ByteArray), Found p s n bq there t ∧ (∀ w' : World, w'.heap[m]? = w.heap[m]? → (Instr.lookup 69 (.map (some m)) (sv s) true).run Tryd.prog w' = .ok (.tuple #[.agg #[.int .i64 n, .bool bq, .string t], .bool there]) w') ∧ (∀ w' : World, w'.heap[m]? = w.heap[m]? → (Instr.lookup 69 (.map (some m)) (sv s) false).run Tryd.prog w' = .ok (.agg #[.int .i64 n, .bool bq, .string t]) w') := by
  by_cases hm : s ∈ all p
  · have hm2 := hm
    unfold all at hm2
    obtain ⟨q, hq, hqs⟩ := List.mem_map.1 hm2
    obtain ⟨j, hj, rfl⟩ := List.getElem_of_mem hq
    subst hqs
    have hf : ∀ (j2 : Nat) (v : Value), (ent p (pls p))[j2]? = some (sv (seatOf p (pls p)[j]), v) → v = .agg (plc p j (pls p)[j]).toArray := fun j2 v h2 => by
      have hj2 : j2 < (pls p).length := by have := (List.getElem?_eq_some_iff.1 h2).1; rwa [ent_len] at this
      rw [ent_get p _ j2 hj2] at h2
      injection h2 with h2
      injection h2 with h2 h3
      have e := sv_inj h2
      have n1 := num_at hl hj2
      rw [e, num_at hl hj] at n1
      have : j2 = j := by omega
      subst this
      exact h3.symm
    have hno : ¬ ∀ e ∈ ent p (pls p), e.1 ≠ sv (seatOf p (pls p)[j]) := fun hc => hc _ (List.mem_iff_getElem?.2 ⟨j, ent_get p _ j hj⟩) rfl
    refine ⟨j, p.bl.contains (seatOf p (pls p)[j]), true, mkq p (pls p)[j], ⟨by simpa using hm, fun _ => ⟨(num_at hl hj).symm, rfl⟩, mkq_at hl hj⟩, fun w' hw => ?_, fun w' hw => ?_⟩
    · rcases (h.kept hw).look lawKey (sv_key hs) uMap _ (zPlace w') with ⟨j2, v, h2, hr⟩ | ⟨h2, _⟩
      · rw [hr, hf j2 v h2]; rfl
      · exact absurd h2 hno
    · rcases (h.kept hw).look1 lawKey (sv_key hs) uMap _ (zPlace w') with ⟨j2, v, h2, hr⟩ | ⟨h2, _⟩
      · rw [hr, hf j2 v h2]; rfl
      · exact absurd h2 hno
  · have hf : ∀ (j2 : Nat) (v : Value), (ent p (pls p))[j2]? ≠ some (sv s, v) := fun j2 v h2 => by
      obtain ⟨j, hj, e⟩ := ent_mem (List.mem_iff_getElem?.2 ⟨j2, h2⟩)
      injection e with e _
      exact hm (by rw [sv_inj e]; unfold all; exact List.mem_map.2 ⟨_, List.getElem_mem hj, rfl⟩)
    have hc : (all p).contains s = false := by simpa using hm
    refine ⟨0, false, false, ⟨#[]⟩, ⟨hc.symm, fun h => by (cases h), by simp only [mkS, hasS, hc]; rfl⟩, fun w' hw => ?_, fun w' hw => ?_⟩
    · rcases (h.kept hw).look lawKey (sv_key hs) uMap _ (zPlace w') with ⟨j2, v, h2, hr⟩ | ⟨_, hr⟩
      · exact absurd h2 (hf j2 v)
      · exact hr
    · rcases (h.kept hw).look1 lawKey (sv_key hs) uMap _ (zPlace w') with ⟨j2, v, h2, hr⟩ | ⟨_, hr⟩
      · exact absurd h2 (hf j2 v)
      · exact hr
end Pl
end Go.Proofs.YtonfkonjkgalhaaDoor
