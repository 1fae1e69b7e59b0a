/- Facts for HoldApart's walk. -/
import Derived.Test.YtfodabbmjggieaaGreatHdSame
namespace Go.Proofs.YtfodabbmjggieaaGreat
open Go.RowKit Go.WideMaps
set_option linter.unusedVariables false

namespace Hd
theorem onL_congr {fs : List Fl.F} {gs : List (Nat × Pl.P)} {l l2 : List (K × H)} {x : L} (h : ∀ k, who l2 k = who l k) : onL fs gs l2 x = onL fs gs l x := by
  have e : onF l2 x = onF l x := by funext s; unfold onF; rw [h]
  unfold onL
  rw [e]
theorem onL_len {fs : List Fl.F} {gs : List (Nat × Pl.P)} {l : List (K × H)} {x : L} (hp : ∀ g ∈ gs, Pl.rowsOk g.2 = true ∧ Pl.lettersOk g.2.lt = true) : (onL fs gs l x).length ≤ 600 := by
  unfold onL
  split
  · split
    · rename_i g hg
      have hok := hp _ (List.mem_of_getElem? hg)
      exact Nat.le_trans (List.length_filterMap_le _ _) (Nat.le_trans (List.length_filter_le _ _) (Pl.all_len hok.2 hok.1))
    · simp
  · simp
theorem fm_congr {α β : Type} {f g : α → Option β} : ∀ {l : List α}, (∀ s ∈ l, g s = f s) → l.filterMap g = l.filterMap f
  | [], _ => rfl
  | x :: l, h => by
    have ih := fm_congr (l := l) fun s hs => h s (List.mem_cons_of_mem _ hs)
    rw [List.filterMap_cons, List.filterMap_cons, h x List.mem_cons_self, ih]
theorem fm_one {α β : Type} {f g : α → Option β} {a : α} {b : β} : ∀ {l : List α}, l.Nodup → a ∈ l → f a = none → g a = some b → (∀ s ∈ l, s ≠ a → g s = f s) → (l.filterMap g).length = (l.filterMap f).length + 1
  | [], _, h, _, _, _ => by cases h
  | x :: l, hn, hm, hf, hg, he => by
    rw [List.nodup_cons] at hn
    by_cases hx : x = a
    · subst hx
      have e : l.filterMap g = l.filterMap f := fm_congr fun s hs => he s (List.mem_cons_of_mem _ hs) (fun e => hn.1 (e ▸ hs))
      rw [List.filterMap_cons_some hg, List.filterMap_cons_none hf, e]
      rfl
    · have hm2 : a ∈ l := by
        rcases List.mem_cons.1 hm with e | e
        · exact absurd e.symm hx
        · exact e
      have ih := fm_one hn.2 hm2 hf hg (fun s hs => he s (List.mem_cons_of_mem _ hs))
      have hgx := he x List.mem_cons_self hx
      cases hfx : f x with
      | none => rw [List.filterMap_cons_none hfx, List.filterMap_cons_none (hgx.trans hfx), ih]
      | some v => rw [List.filterMap_cons_some hfx, List.filterMap_cons_some (hgx.trans hfx), List.length_cons, List.length_cons, ih]
theorem on_more {fs : List Fl.F} {gs : List (Nat × Pl.P)} {l l2 : List (K × H)} {x : L} {s : Int × Int} {h : H} (hp : ∀ g ∈ gs, Pl.rowsOk g.2 = true ∧ Pl.lettersOk g.2.lt = true) (hc : chk fs (gs.map Prod.snd) (mk x s) = 0) (hn : who l (mk x s) = none) (h2 : ∀ k', who l2 k' = if k' = mk x s then some h else who l k') : (onL fs gs l2 x).length = (onL fs gs l x).length + 1 := by
  have hh : hasC fs (gs.map Prod.snd) (mk x s) = true := by
    unfold chk at hc
    split at hc
    · split at hc
      · assumption
      · cases hc
    · cases hc
  unfold hasC at hh
  split at hh
  · rename_i i hcab
    split at hh
    · rename_i p hpi
      rw [List.length_map] at hcab
      have hcab2 : cab fs gs.length x.car x.num = some i := hcab
      have hi := cab_lt hcab
      have hpi2 : p = gs[i].2 := by
        rw [List.getElem?_map, List.getElem?_eq_getElem hi] at hpi
        injection hpi with hpi
        exact hpi.symm
      have hok := hp _ (List.getElem_mem hi)
      rw [onL_some hcab2 hi, onL_some hcab2 hi]
      have hS : Pl.hasS gs[i].2 s = true := by rw [← hpi2]; exact hh
      have hal : s ∈ Pl.all gs[i].2 := by
        have h3 := hS
        unfold Pl.hasS at h3
        rw [Bool.and_eq_true] at h3
        exact List.contains_iff_mem.1 h3.1
      refine fm_one (a := s) (b := mkD s h) ((Pl.all_nodup hok.2).filter _) (List.mem_filter.2 ⟨hal, hS⟩) ?_ ?_ (fun s' _ hne => ?_)
      · unfold onF; rw [hn]; rfl
      · unfold onF; rw [h2, if_pos rfl]; rfl
      · unfold onF
        rw [h2, if_neg]
        intro e
        unfold mk at e
        injection e with _ _ _ e1 e2
        exact hne (Prod.ext e1 e2)
    · cases hh
  · cases hh
theorem takeC_zero {fs : List Fl.F} {ps : List Pl.P} {l : List (K × H)} {k : K} {h : H} (h4 : takeC fs ps l k h = 0) : chk fs ps k = 0 ∧ who l k = none := by
  unfold takeC at h4
  split at h4
  · rename_i hc
    refine ⟨hc, ?_⟩
    cases hw : who l k with
    | none => rfl
    | some h' =>
      rw [hw] at h4
      simp only at h4
      split at h4 <;> cases h4
  · rename_i hc; exact absurd h4 hc
theorem OwnD.fr {F : Nat → Prop} {w w' : World} {base : Nat} {v : Value} {ls : List D} (h : OwnD w base v ls) (hf : Rw.Fr F w w') (hF : ∀ k, F k → ∀ cur, w.heap[k]? ≠ some (.cells cur 63 (0, 0))) : OwnD w' base v ls := by
  obtain ⟨h1, h2 | ⟨g, cap, cur, hv, hg, hh, h3⟩⟩ := h
  · exact ⟨h1, .inl h2⟩
  · exact ⟨h1, .inr ⟨g, cap, cur, hv, hg, (hf.block g (Rw.lt_of_some hh) (fun hFg => hF g hFg cur hh)).trans hh, h3⟩⟩
/-- What HoldApart keeps. -/
structure Ap (W w : World) (Bt p t m p2 m2 gx gy ga gb cap : Nat) (A : Option Addr) (rs : List Fl.R) (gs : List (Nat × Pl.P)) (l l2 : List (K × H)) (x y : L) (a o : Hd.A) : Prop where
  b : At w Bt p t m A cap rs gs l
  c : At w Bt p2 t m2 A cap rs gs l2
  ne : m ≠ m2
  lw : W.heap.size ≤ m2
  kx : Rw.Blk w gx 35 (encL x)
  ky : Rw.Blk w gy 35 (encL y)
  ka : Rw.Blk w ga 41 (acs a)
  ko : Rw.Blk w gb 41 (acs o)
  be : Below W.heap.size W w
section
variable {W w w' : World} {Bt p t m p2 m2 gx gy ga gb cap : Nat} {A : Option Addr} {rs : List Fl.R} {gs : List (Nat × Pl.P)} {l l2 : List (K × H)} {x y : L} {a o : Hd.A}
theorem Ap.kept (h : Ap W w Bt p t m p2 m2 gx gy ga gb cap A rs gs l l2 x y a o) (hb : Below w.heap.size w w') : Ap W w' Bt p t m p2 m2 gx gy ga gb cap A rs gs l l2 x y a o :=
  ⟨h.b.kept hb, h.c.kept hb, h.ne, h.lw, h.kx.below' hb, h.ky.below' hb, h.ka.below' hb, h.ko.below' hb, h.be.trans (hb.mono h.be.size)⟩
theorem Ap.bt (h : Ap W w Bt p t m p2 m2 gx gy ga gb cap A rs gs l l2 x y a o) : Bt ≤ w.heap.size := Nat.le_trans h.b.lom (Nat.le_of_lt h.b.map.lt)
theorem Ap.neq (h : Ap W w Bt p t m p2 m2 gx gy ga gb cap A rs gs l l2 x y a o) {g : Nat} {T : TypeId} {cs : List Value} (hk : Rw.Blk w g T cs) : g ≠ m2 := fun e => by
  obtain ⟨es, ck, hb, _⟩ := h.c.map
  unfold Rw.Blk at hk
  rw [e, hb] at hk
  cases hk
theorem Ap.bk (h : Ap W w Bt p t m p2 m2 gx gy ga gb cap A rs gs l l2 x y a o) (hf : Rw.Fr (· = m2) w w') {g : Nat} {T : TypeId} {cs : List Value} (hk : Rw.Blk w g T cs) : Rw.Blk w' g T cs := hk.kept (hf.block g hk.lt (h.neq hk))
theorem Ap.own (h : Ap W w Bt p t m p2 m2 gx gy ga gb cap A rs gs l l2 x y a o) (hf : Rw.Fr (· = m2) w w') {base : Nat} {v : Value} {ls : List D} (hk : OwnD w base v ls) : OwnD w' base v ls := hk.fr hf fun k (e : k = m2) cur hc => by
  obtain ⟨es, ck, hb, _⟩ := h.c.map
  rw [e, hb] at hc
  cases hc
theorem Ap.upd {l3 : List (K × H)} (h : Ap W w Bt p t m p2 m2 gx gy ga gb cap A rs gs l l2 x y a o) (hf : Rw.Fr (· = m2) w w') (h2 : At w' Bt p2 t m2 A cap rs gs l3) : Ap W w' Bt p t m p2 m2 gx gy ga gb cap A rs gs l l3 x y a o :=
  ⟨h.b.beside hf h.c.lom h.ne h.c.map.toL, h2, h.ne, h.lw, h.bk hf h.kx, h.bk hf h.ky, h.bk hf h.ka, h.bk hf h.ko, h.be.trans (hf.below h.be.size (fun k (hk : k = m2) => by have := h.lw; omega))⟩
theorem Ap.stored {g : Nat} {cs : List Value} (h : Ap W w Bt p t m p2 m2 gx gy ga gb cap A rs gs l l2 x y a o) (hk : Rw.Blk w g 39 cs) (hf : Rw.Fr (· = g) w w') (hB : Bt ≤ g) (hw : W.heap.size ≤ g) : Ap W w' Bt p t m p2 m2 gx gy ga gb cap A rs gs l l2 x y a o :=
  ⟨h.b.stored hk hf hB (by decide) (by decide), h.c.stored hk hf hB (by decide) (by decide), h.ne, h.lw, h.kx.kept (hf.block _ h.kx.lt (Rw.blk_ne h.kx hk (by decide))), h.ky.kept (hf.block _ h.ky.lt (Rw.blk_ne h.ky hk (by decide))), h.ka.kept (hf.block _ h.ka.lt (Rw.blk_ne h.ka hk (by decide))), h.ko.kept (hf.block _ h.ko.lt (Rw.blk_ne h.ko hk (by decide))), h.be.trans (hf.below h.be.size (fun k (hk : k = g) => by omega))⟩
theorem OwnD.stored {g : Nat} {cs : List Value} {base : Nat} {v : Value} {ls : List D} (h : OwnD w base v ls) (hk : Rw.Blk w g 39 cs) (hf : Rw.Fr (· = g) w w') : OwnD w' base v ls := h.fr hf fun k (e : k = g) cur hc => by
  rw [e, show w.heap[g]? = _ from hk] at hc
  injection hc with hc
  injection hc with _ hc
  exact absurd hc (by decide)
theorem Ap.take {k : K} {hh : H} {e : Ending} (h : Ap W w Bt p t m p2 m2 gx gy ga gb cap A rs gs l l x y a o) (hT : TakeIs w Bt p2 t m2 A cap rs gs l k hh e w') :
    e = .returned (.int .i64 (takeC (rs.map Fl.R.f) (gs.map Prod.snd) l k hh)) ∧ ∃ l3, Ap W w' Bt p t m p2 m2 gx gy ga gb cap A rs gs l l3 x y a o ∧ Rw.Fr (· = m2) w w' ∧ ∀ k', who l3 k' = if k' = k ∧ takeC (rs.map Fl.R.f) (gs.map Prod.snd) l k hh = 0 then some hh else who l k' := by
  obtain ⟨he, l3, hA, hf, hw, _⟩ := take_who h.c hT
  exact ⟨he, l3, h.upd hf hA, hf, hw⟩
theorem Ap.free {k : K} {hh : H} {e : Ending} (h : Ap W w Bt p t m p2 m2 gx gy ga gb cap A rs gs l l2 x y a o) (hc : chk (rs.map Fl.R.f) (gs.map Prod.snd) k = 0) (hn : who l k = none) (hw2 : ∀ k', who l2 k' = if k' = k then some hh else who l k') (hT : FreeIs w Bt p2 t m2 A cap rs gs l2 k hh e w') :
    e = .returned (.int .i64 0) ∧ ∃ l3, Ap W w' Bt p t m p2 m2 gx gy ga gb cap A rs gs l l3 x y a o ∧ Rw.Fr (· = m2) w w' ∧ ∀ k', who l3 k' = who l k' := by
  have h0 : freeC (rs.map Fl.R.f) (gs.map Prod.snd) l2 k hh = 0 := freeC_yes hc (by rw [hw2, if_pos rfl])
  obtain ⟨he, l3, hA, hf, hw, _⟩ := free_who h.c hT
  rw [h0] at he
  refine ⟨he, l3, h.upd hf hA, hf, fun k' => ?_⟩
  rw [hw, hw2]
  by_cases e : k' = k
  · subst e; rw [if_pos ⟨rfl, h0⟩, hn]
  · rw [if_neg (fun h => e h.1), if_neg e]
end
end Hd
end Go.Proofs.YtfodabbmjggieaaGreat
