/- A stock in memory; what is sold as a function. -/
import Derived.Test.YtmcekicaigbccaaGreatFlRNew
import Derived.Test.YtmcekicaigbccaaGreatStKey
namespace Go.Proofs.YtmcekicaigbccaaGreat
open Go.RowKit Go.WideMaps
set_option linter.unusedVariables false

namespace Mp
theorem MapS.look1 {P : Program} {k : TypeId} {w : World} {r : Nat} {l : List (Value × Value)} (K : KeyLaw P k) (h : MapS P k w r l) {key : Value} (hk : KeyIs P k key) {t e : TypeId} (ht : P.underlying t = some (.map k e)) (z : Value) (hz : (zeroValue e).run P w = .ok z w) :
    (∃ (j : Nat) (v : Value), l[j]? = some (key, v) ∧ (Instr.lookup t (.map (some r)) key false).run P w = .ok v w) ∨ ((∀ p ∈ l, p.1 ≠ key) ∧ (Instr.lookup t (.map (some r)) key false).run P w = .ok z w) := by
  obtain ⟨es, ck, hb, he, hI, _⟩ := h
  obtain ⟨kl, hkl⟩ := hk
  rcases K.find w hkl es.toList (keys_of he hI) with ⟨h1, h2⟩ | ⟨j, e0, h1, h2, h3⟩
  · right
    refine ⟨fun p hp => ?_, by simp [Instr.lookup, run_underlying ht, MapKept.run_getObj_map hb, K.check w _ hkl, h1, hz]⟩
    rw [← he] at hp
    obtain ⟨e1, g1, g2⟩ := List.mem_map.1 hp
    rw [← g2]
    exact h2 e1 g1
  · left
    refine ⟨j, e0.val, ?_, by simp [Instr.lookup, run_underlying ht, MapKept.run_getObj_map hb, K.check w _ hkl, h1]⟩
    rw [← he, List.getElem?_map, h2, Option.map_some, h3]
end Mp
namespace Fl
theorem clsOk_level {l : List (Int × Int)} (h : clsOk l = true) (c : Int) : 0 ≤ (lvlOf l c).1 ∧ (lvlOf l c).1 ≤ 400 := by
  unfold lvlOf
  cases hf : l.find? (fun p => p.1 == c) with
  | none => simp
  | some p =>
    obtain ⟨k, hk, rfl⟩ := List.getElem_of_mem (List.mem_of_find?_eq_some hf)
    unfold clsOk at h
    simp only [Bool.and_eq_true, List.all_eq_true, List.mem_range] at h
    have := h.2 k hk
    unfold cOk at this
    simp only [Bool.and_eq_true, decide_eq_true_eq] at this
    have e : lv l k = l[k].2 := by simp [lv, List.getD_eq_getElem?_getD, List.getElem?_eq_getElem hk]
    rw [e] at this
    exact ⟨this.1.1.2, this.1.2⟩
theorem level_bound {fs : List F} (h : ∀ f ∈ fs, right f = true) (car : ByteArray) (num day c : Int) : 0 ≤ (level fs car num day c).1 ∧ (level fs car num day c).1 ≤ 400 := by
  unfold level
  cases hf : fs.find? (fun f => isK f car num) with
  | none => simp
  | some f =>
    have hr := h f (List.mem_of_find?_eq_some hf)
    unfold right at hr
    simp only [Bool.and_eq_true] at hr
    simp only [lvlF]
    split
    · exact clsOk_level hr.1.2 c
    · simp
theorem level_err {fs : List F} (car : ByteArray) (num day c : Int) : (level fs car num day c).2 = 0 ∨ ((level fs car num day c).2 = 9 ∧ (level fs car num day c).1 = 0) ∨ ((level fs car num day c).2 = 12 ∧ (level fs car num day c).1 = 0) := by
  unfold level
  split
  · rename_i f _
    unfold lvlF
    split
    · unfold lvlOf
      split
      · exact .inl rfl
      · exact .inr (.inr ⟨rfl, rfl⟩)
    · exact .inr (.inl ⟨rfl, rfl⟩)
  · exact .inr (.inl ⟨rfl, rfl⟩)
end Fl
namespace St
def ent (e : K × Int) : Value × Value := (pv e.1, .int .i64 e.2)
/-- How many are sold. -/
def sold (l : List (K × Int)) (k : K) : Int := match l.find? (fun e => decide (e.1 = k)) with
  | some e => e.2
  | none => 0
/-- The level of a class of a leg. -/
def lvl (rs : List Fl.R) (k : K) : Int := (Fl.level (rs.map Fl.R.f) k.car k.num k.day k.cls).1
def err (rs : List Fl.R) (k : K) : Int := (Fl.level (rs.map Fl.R.f) k.car k.num k.day k.cls).2
/-- A table that lies below Bt. -/
def TabB (w : World) (Bt t : Nat) (rs : List Fl.R) : Prop := ∃ w0 base, w0.heap.size = Bt ∧ Fl.Tab w0 base t rs ∧ Below Bt w0 w
theorem TabB.tab {w : World} {Bt t : Nat} {rs : List Fl.R} (h : TabB w Bt t rs) : ∃ base, Fl.Tab w base t rs := by
  obtain ⟨w0, base, e, h1, h2⟩ := h
  subst e
  exact ⟨base, h1.kept h2⟩
theorem TabB.fr {w w' : World} {Bt t : Nat} {rs : List Fl.R} {F : Nat → Prop} (h : TabB w Bt t rs) (hf : Rw.Fr F w w') (hF : ∀ k, F k → Bt ≤ k) : TabB w' Bt t rs := by
  obtain ⟨w0, base, e, h1, h2⟩ := h
  have hs := h2.size
  exact ⟨w0, base, e, h1, h2.trans (hf.below (by omega) hF)⟩
structure At (w : World) (Bt p t m : Nat) (rs : List Fl.R) (l : List (K × Int)) : Prop where
  tab : TabB w Bt t rs
  blk : Rw.Blk w p 75 [.pointer (some ⟨t, 0, none⟩), .map (some m)]
  map : Mp.MapS Tryz.prog 77 w m (l.map ent)
  lop : Bt ≤ p
  lom : Bt ≤ m
  val : ∀ e ∈ l, 0 < e.2 ∧ e.2 ≤ lvl rs e.1 ∧ OkK e.1
  right : ∀ r ∈ rs, Fl.right r.f = true
  few : rs.length ≤ 64
theorem At.ne {w : World} {Bt p t m : Nat} {rs : List Fl.R} {l : List (K × Int)} (h : At w Bt p t m rs l) : p ≠ m := fun e => by
  obtain ⟨es, ck, hb, _⟩ := h.map
  have := h.blk
  unfold Rw.Blk at this
  rw [e, hb] at this
  cases this
theorem At.fr {w w' : World} {Bt p t m : Nat} {rs : List Fl.R} {l : List (K × Int)} {F : Nat → Prop} (h : At w Bt p t m rs l) (hf : Rw.Fr F w w') (hF : ∀ k, F k → Bt ≤ k) (hp : ¬ F p) (hm : ¬ F m) : At w' Bt p t m rs l :=
  ⟨h.tab.fr hf hF, h.blk.kept (hf.block p h.blk.lt hp), h.map.kept (hf.block m h.map.lt hm), h.lop, h.lom, h.val, h.right, h.few⟩
theorem At.kept {w w' : World} {Bt p t m : Nat} {rs : List Fl.R} {l : List (K × Int)} (h : At w Bt p t m rs l) (hb : Below w.heap.size w w') : At w' Bt p t m rs l :=
  h.fr (Rw.Fr.of_below (F := fun _ => False) hb) (fun _ e => e.elim) id id
theorem ents_nodup {l : List (K × Int)} (h : ((l.map ent).map Prod.fst).Nodup) : (l.map Prod.fst).Nodup := by
  have e : (l.map ent).map Prod.fst = (l.map Prod.fst).map pv := by simp [ent, List.map_map, Function.comp_def]
  rw [e] at h
  exact List.Pairwise.of_map pv (fun a b hab e => hab (by rw [e])) h
theorem At.nod {w : World} {Bt p t m : Nat} {rs : List Fl.R} {l : List (K × Int)} (h : At w Bt p t m rs l) : (l.map Prod.fst).Nodup := by
  obtain ⟨es, ck, hb, he, hI, hn, _⟩ := h.map
  exact ents_nodup hn
theorem sold_mem {l : List (K × Int)} (hn : (l.map Prod.fst).Nodup) {k : K} {n : Int} (h : (k, n) ∈ l) : sold l k = n := by
  unfold sold
  cases hf : l.find? (fun e => decide (e.1 = k)) with
  | none =>
    rw [List.find?_eq_none] at hf
    exact absurd (decide_eq_true rfl) (hf _ h)
  | some e =>
    have h1 := List.mem_of_find?_eq_some hf
    have h2 := List.find?_some hf
    simp only [decide_eq_true_eq] at h2
    obtain ⟨i, hi, e1⟩ := List.getElem_of_mem h1
    obtain ⟨j, hj, e2⟩ := List.getElem_of_mem h
    have hi2 : i < (l.map Prod.fst).length := by simpa using hi
    have hj2 : j < (l.map Prod.fst).length := by simpa using hj
    have e3 : (l.map Prod.fst)[i] = (l.map Prod.fst)[j] := by simp [e1, e2, h2]
    have : i = j := by
      rcases Nat.lt_trichotomy i j with h | h | h
      · exact absurd e3 (List.pairwise_iff_getElem.1 hn i j hi2 hj2 h)
      · exact h
      · exact absurd e3.symm (List.pairwise_iff_getElem.1 hn j i hj2 hi2 h)
    subst this
    rw [e1] at e2
    rw [e2]
theorem sold_non {l : List (K × Int)} {k : K} (h : ∀ e ∈ l, e.1 ≠ k) : sold l k = 0 := by
  unfold sold
  rw [show l.find? (fun e => decide (e.1 = k)) = none from List.find?_eq_none.2 fun e he => by simpa using h e he]
theorem sold_cases (l : List (K × Int)) (k : K) : (k, sold l k) ∈ l ∨ ((∀ e ∈ l, e.1 ≠ k) ∧ sold l k = 0) := by
  unfold sold
  cases hf : l.find? (fun e => decide (e.1 = k)) with
  | none =>
    rw [List.find?_eq_none] at hf
    exact .inr ⟨fun e he => by simpa using hf e he, rfl⟩
  | some e =>
    have h1 := List.mem_of_find?_eq_some hf
    have h2 := List.find?_some hf
    simp only [decide_eq_true_eq] at h2
    subst h2
    exact .inl h1
theorem lvl_bound {rs : List Fl.R} (h : ∀ r ∈ rs, Fl.right r.f = true) (k : K) : 0 ≤ lvl rs k ∧ lvl rs k ≤ 400 := Fl.level_bound (fun f hf => by obtain ⟨r, hr, rfl⟩ := List.mem_map.1 hf; exact h r hr) _ _ _ _
theorem At.bound {w : World} {Bt p t m : Nat} {rs : List Fl.R} {l : List (K × Int)} (h : At w Bt p t m rs l) (k : K) : 0 ≤ sold l k ∧ sold l k ≤ lvl rs k ∧ lvl rs k ≤ 400 := by
  have hb := lvl_bound h.right k
  rcases sold_cases l k with h1 | ⟨_, h1⟩
  · have := h.val _ h1
    exact ⟨by have := this.1; omega, this.2.1, hb.2⟩
  · rw [h1]; exact ⟨Int.le_refl _, hb.1, hb.2⟩
set_option maxRecDepth 20000 in
/-- The look at what is sold. -/
theorem At.look {w : World} {Bt p t m : Nat} {rs : List Fl.R} {l : List (K × Int)} (h : At w Bt p t m rs l) {k : K} (hk : OkK k) : ∀ W : World, W.heap[m]? = w.heap[m]? → (Instr.lookup 73 (.map (some m)) (pv k) false).run Tryz.prog W = .ok (.int .i64 (sold l k)) W := fun W hW => by
  rcases (h.map.kept hW).look1 lawP (pv_key hk) uSold _ (Fl.zInt W) with ⟨j, v, h1, h2⟩ | ⟨h1, h2⟩
  · have hm := List.mem_of_getElem? h1
    obtain ⟨e, he, h3⟩ := List.mem_map.1 hm
    unfold ent at h3
    injection h3 with h4 h5
    have h6 := pv_inj h4
    rw [h2, ← h5]
    obtain ⟨k1, n1⟩ := e
    simp only at h6 h5
    subst h6
    rw [sold_mem h.nod he]
  · rw [h2, sold_non]
    intro e he h3
    exact h1 (ent e) (List.mem_map.2 ⟨e, he, rfl⟩) (by unfold ent; rw [h3])
end St
end Go.Proofs.YtmcekicaigbccaaGreat
