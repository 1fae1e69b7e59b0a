/- A book in memory; whose a seat is. -/
import Derived.Test.YtfodabbmjggieaaGreatHdKey
import Derived.Test.YtfodabbmjggieaaGreatG3
import Derived.Test.YtfodabbmjggieaaGreatG2
namespace Go.Proofs.YtfodabbmjggieaaGreat
open Go.RowKit Go.WideMaps
set_option linter.unusedVariables false

namespace Hd
def ent (e : K × H) : Value × Value := (pv e.1, hv e.2)
/-- Whose a seat is. -/
def who (l : List (K × H)) (k : K) : Option H := (l.find? (fun e => decide (e.1 = k))).map Prod.snd
/-- The place of a leg's map among the maps. -/
def cab (fs : List Fl.F) (n : Nat) (car : ByteArray) (num : Int) : Option Nat := match fs.find? (fun f => Fl.isK f car num) with
  | some f => if 0 ≤ f.plan ∧ f.plan < n then some f.plan.toNat else none
  | none => none
theorem cab_lt {fs : List Fl.F} {n i : Nat} {car : ByteArray} {num : Int} (h : cab fs n car num = some i) : i < n := by
  unfold cab at h
  split at h
  · split at h
    · injection h with h; omega
    · cases h
  · cases h
/-- Has a leg's flight that seat? -/
def hasC (fs : List Fl.F) (ps : List Pl.P) (k : K) : Bool := match cab fs ps.length k.car k.num with
  | some i => match ps[i]? with
    | some p => Pl.hasS p k.seat
    | none => false
  | none => false
/-- The error of a seat that there isn't. -/
def chk (fs : List Fl.F) (ps : List Pl.P) (k : K) : Int := if Fl.flies fs k.car k.num k.day then (if hasC fs ps k then 0 else 15) else 9
theorem chk_cases (fs : List Fl.F) (ps : List Pl.P) (k : K) : chk fs ps k = 0 ∨ chk fs ps k = 9 ∨ chk fs ps k = 15 := by
  unfold chk; split
  · split <;> simp
  · simp
/-- What lies below Bt: a table, and maps at gs. -/
structure Env (w : World) (t : Nat) (rs : List Fl.R) (gs : List (Nat × Pl.P)) : Prop where
  tab : ∃ base, Fl.Tab w base t rs
  maps : ∀ i (hi : i < gs.length), ∃ base, Pl.MapAt w base gs[i].1 gs[i].2 (Pl.pls gs[i].2)
theorem Env.below {w w' : World} {t : Nat} {rs : List Fl.R} {gs : List (Nat × Pl.P)} (h : Env w t rs gs) (hb : Below w.heap.size w w') : Env w' t rs gs := by
  obtain ⟨⟨b, h1⟩, h2⟩ := h
  exact ⟨⟨b, h1.kept hb⟩, fun i hi => by obtain ⟨b2, h3⟩ := h2 i hi; exact ⟨b2, h3.below hb⟩⟩
def EnvB (w : World) (Bt t : Nat) (rs : List Fl.R) (gs : List (Nat × Pl.P)) : Prop := ∃ w0, w0.heap.size = Bt ∧ Env w0 t rs gs ∧ Below Bt w0 w
theorem EnvB.env {w : World} {Bt t : Nat} {rs : List Fl.R} {gs : List (Nat × Pl.P)} (h : EnvB w Bt t rs gs) : Env w t rs gs := by
  obtain ⟨w0, e, h1, h2⟩ := h
  subst e
  exact h1.below h2
theorem EnvB.fr {w w' : World} {Bt t : Nat} {rs : List Fl.R} {gs : List (Nat × Pl.P)} {F : Nat → Prop} (h : EnvB w Bt t rs gs) (hf : Rw.Fr F w w') (hF : ∀ k, F k → Bt ≤ k) : EnvB w' Bt t rs gs := by
  obtain ⟨w0, e, h1, h2⟩ := h
  have hs := h2.size
  exact ⟨w0, e, h1, h2.trans (hf.below (by omega) hF)⟩
theorem EnvB.of {w : World} {t : Nat} {rs : List Fl.R} {gs : List (Nat × Pl.P)} (h : Env w t rs gs) : EnvB w w.heap.size t rs gs := ⟨w, rfl, h, Below.refl _ _⟩
/-- The row of the maps. -/
def ptrs (gs : List (Nat × Pl.P)) : List Value := gs.map fun g => .pointer (some ⟨g.1, 0, none⟩)
def OwnP (w : World) (base : Nat) (v : Value) (gs : List (Nat × Pl.P)) : Prop := w.ownsRow base 96 1 v gs.length (ptrs gs)
theorem OwnP.kept {w w' : World} {base : Nat} {v : Value} {gs : List (Nat × Pl.P)} (h : OwnP w base v gs) (hb : ∀ (g : Nat) (cur : Array Value), w.heap[g]? = some (.cells cur 96 (0, 0)) → w'.heap[g]? = w.heap[g]?) : OwnP w' base v gs := by
  obtain ⟨h1, h2 | ⟨g, cap, cur, hv, hg, hh, h3⟩⟩ := h
  · exact ⟨h1, .inl h2⟩
  · exact ⟨h1, .inr ⟨g, cap, cur, hv, hg, (hb g cur hh).trans hh, h3⟩⟩
theorem OwnP.below {w w' : World} {base : Nat} {v : Value} {gs : List (Nat × Pl.P)} (h : OwnP w base v gs) (hb : Below w.heap.size w w') : OwnP w' base v gs := h.kept fun g cur hg => hb.block g (Rw.lt_of_some hg)
theorem OwnP.low {w : World} {base base' : Nat} {v : Value} {gs : List (Nat × Pl.P)} (h : OwnP w base v gs) (hb : base' ≤ base) : OwnP w base' v gs := by
  obtain ⟨h1, h2 | ⟨g, cap, cur, hv, hg, h3⟩⟩ := h
  · exact ⟨h1, .inl h2⟩
  · exact ⟨h1, .inr ⟨g, cap, cur, hv, by omega, h3⟩⟩
theorem OwnP.slice {w : World} {base : Nat} {v : Value} {gs : List (Nat × Pl.P)} (h : OwnP w base v gs) : ∃ A cap, v = .slice A gs.length cap := by
  obtain ⟨_, ⟨hv, h0⟩ | ⟨g, cap, cur, hv, _⟩⟩ := h
  · exact ⟨none, 0, by rw [hv, h0]⟩
  · exact ⟨_, _, hv⟩
theorem OwnP.at {w : World} {base n cap : Nat} {A : Option Addr} {gs : List (Nat × Pl.P)} (h : OwnP w base (.slice A n cap) gs) (i : Nat) (hi : i < gs.length) : ∃ b, A = some ⟨b, 0, none⟩ ∧ b < w.heap.size ∧ w.cell? ⟨b, i, none⟩ = some (.pointer (some ⟨gs[i].1, 0, none⟩)) := by
  obtain ⟨_, ⟨hv, h0⟩ | ⟨g, cap', cur, hv, hg, hh, hcap, _, hsz, htk⟩⟩ := h
  · omega
  · injection hv with e1 e2 e3
    refine ⟨g, e1, Rw.lt_of_some hh, ?_⟩
    have hg : (ptrs gs)[i]? = some (.pointer (some ⟨gs[i].1, 0, none⟩)) := by simp [ptrs, hi]
    rw [← htk, List.getElem?_take_of_lt (by omega)] at hg
    rw [cell_of_row _ _ _ _ _ _ hh]
    simpa using hg
structure At (w : World) (Bt p t m : Nat) (A : Option Addr) (cap : Nat) (rs : List Fl.R) (gs : List (Nat × Pl.P)) (l : List (K × H)) : Prop where
  env : EnvB w Bt t rs gs
  blk : Rw.Blk w p 89 [.pointer (some ⟨t, 0, none⟩), .slice A gs.length cap, .map (some m)]
  row : OwnP w Bt (.slice A gs.length cap) gs
  map : Mp.MapS Tryz.prog 91 w m (l.map ent)
  lop : Bt ≤ p
  lom : Bt ≤ m
  val : ∀ e ∈ l, chk (rs.map Fl.R.f) (gs.map Prod.snd) e.1 = 0 ∧ OkK e.1
  right : ∀ r ∈ rs, Fl.right r.f = true
  few : rs.length ≤ 64
  pok : ∀ g ∈ gs, Pl.rowsOk g.2 = true ∧ Pl.lettersOk g.2.lt = true
  pfew : gs.length ≤ 8
section
variable {w w' : World} {Bt p t m cap : Nat} {A : Option Addr} {rs : List Fl.R} {gs : List (Nat × Pl.P)} {l : List (K × H)}
theorem At.ne (h : At w Bt p t m A cap rs gs l) : p ≠ m := fun e => by
  obtain ⟨es, ck, hb, _⟩ := h.map
  have := h.blk
  unfold Rw.Blk at this
  rw [e, hb] at this
  cases this
theorem At.fr {F : Nat → Prop} (h : At w Bt p t m A cap rs gs l) (hf : Rw.Fr F w w') (hF : ∀ k, F k → Bt ≤ k) (hp : ¬ F p) (hm : ¬ F m) (hr : ∀ k, F k → ∀ cur, w.heap[k]? ≠ some (.cells cur 96 (0, 0))) : At w' Bt p t m A cap rs gs l :=
  ⟨h.env.fr hf hF, h.blk.kept (hf.block p h.blk.lt hp), h.row.kept fun g cur hg => hf.block g (Rw.lt_of_some hg) (fun hFg => hr g hFg cur hg), h.map.kept (hf.block m h.map.lt hm), h.lop, h.lom, h.val, h.right, h.few, h.pok, h.pfew⟩
theorem At.kept (h : At w Bt p t m A cap rs gs l) (hb : Below w.heap.size w w') : At w' Bt p t m A cap rs gs l :=
  h.fr (Rw.Fr.of_below (F := fun _ => False) hb) (fun _ e => e.elim) id id (fun _ e => e.elim)
/-- Another book's map has changed. -/
theorem At.beside {m2 : Nat} {l2 : List (Value × Value)} (h : At w Bt p t m A cap rs gs l) (hf : Rw.Fr (· = m2) w w') (hB : Bt ≤ m2) (hm : m ≠ m2) (h2 : Mp.MapL Tryz.prog 91 w m2 l2) : At w' Bt p t m A cap rs gs l := by
  obtain ⟨es, ck, hb, _⟩ := h2
  refine h.fr hf (fun k (hk : k = m2) => by omega) (fun (e : p = m2) => ?_) hm (fun k (hk : k = m2) cur e => ?_)
  · have := h.blk
    unfold Rw.Blk at this
    rw [e, hb] at this
    cases this
  · subst hk
    rw [hb] at e
    cases e
theorem ents_nodup {l : List (K × H)} (h : ((l.map ent).map Prod.fst).Nodup) : (l.map Prod.fst).Nodup := by
  have e : (l.map ent).map Prod.fst = (l.map Prod.fst).map pv := by simp [ent, List.map_map, Function.comp_def]
  rw [e] at h
  exact List.Pairwise.of_map pv (fun a b hab e => hab (by rw [e])) h
theorem At.nod (h : At w Bt p t m A cap rs gs l) : (l.map Prod.fst).Nodup := by
  obtain ⟨es, ck, hb, he, hI, hn, _⟩ := h.map
  exact ents_nodup hn
end
theorem who_mem {l : List (K × H)} (hn : (l.map Prod.fst).Nodup) {k : K} {n : H} (h : (k, n) ∈ l) : who l k = some n := by
  unfold who
  cases hf : l.find? (fun e => decide (e.1 = k)) with
  | none =>
    rw [List.find?_eq_none] at hf
    exact absurd (decide_eq_true rfl) (hf _ h)
  | some e =>
    have h1 := List.mem_of_find?_eq_some hf
    have h2 := List.find?_some hf
    simp only [decide_eq_true_eq] at h2
    obtain ⟨i, hi, e1⟩ := List.getElem_of_mem h1
    obtain ⟨j, hj, e2⟩ := List.getElem_of_mem h
    have hi2 : i < (l.map Prod.fst).length := by simpa using hi
    have hj2 : j < (l.map Prod.fst).length := by simpa using hj
    have e3 : (l.map Prod.fst)[i] = (l.map Prod.fst)[j] := by simp [e1, e2, h2]
    have : i = j := by
      rcases Nat.lt_trichotomy i j with h | h | h
      · exact absurd e3 (List.pairwise_iff_getElem.1 hn i j hi2 hj2 h)
      · exact h
      · exact absurd e3.symm (List.pairwise_iff_getElem.1 hn j i hj2 hi2 h)
    subst this
    rw [e1] at e2
    simp [e2]
theorem who_non {l : List (K × H)} {k : K} (h : ∀ e ∈ l, e.1 ≠ k) : who l k = none := by
  unfold who
  rw [Option.map_eq_none_iff, List.find?_eq_none]
  intro e he
  simpa using h e he
theorem who_cases (l : List (K × H)) (k : K) : (∃ n, (k, n) ∈ l ∧ who l k = some n) ∨ ((∀ e ∈ l, e.1 ≠ k) ∧ who l k = none) := by
  cases hf : l.find? (fun e => decide (e.1 = k)) with
  | none =>
    right
    refine ⟨fun e he => ?_, by unfold who; rw [hf]; rfl⟩
    rw [List.find?_eq_none] at hf
    simpa using hf e he
  | some e =>
    left
    have h1 := List.mem_of_find?_eq_some hf
    have h2 := List.find?_some hf
    simp only [decide_eq_true_eq] at h2
    exact ⟨e.2, by rw [← h2]; exact h1, by unfold who; rw [hf]; rfl⟩
end Hd
end Go.Proofs.YtfodabbmjggieaaGreat
