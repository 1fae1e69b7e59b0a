/- A table of flights in memory; its index by keys. -/
import Derived.Test.YtmcekicaigbccaaGreatFlSrt
namespace Go.Proofs.YtmcekicaigbccaaGreat
open Go.RowKit Go.WideMaps
set_option linter.unusedVariables false

namespace Fl
/-- The entries of the index of the first flights. -/
def ent (rs : List R) : List (Value × Value) := rs.mapIdx fun i r => (kv r.f, .int .i64 i)
theorem ent_len (rs : List R) : (ent rs).length = rs.length := by simp [ent]
theorem ent_append (rs : List R) (r : R) : ent (rs ++ [r]) = ent rs ++ [(kv r.f, .int .i64 rs.length)] := by
  simp [ent, List.mapIdx_append]
theorem ent_get (rs : List R) (j : Nat) (hj : j < rs.length) : (ent rs)[j]? = some (kv rs[j].f, .int .i64 j) := by
  simp [ent, hj]
theorem ent_mem {rs : List R} {p : Value × Value} (h : p ∈ ent rs) : ∃ (j : Nat) (hj : j < rs.length), p = (kv rs[j].f, .int .i64 j) := by
  obtain ⟨j, hj⟩ := List.mem_iff_getElem?.1 h
  have hl : j < rs.length := by have := (List.getElem?_eq_some_iff.1 hj).1; rwa [ent_len] at this
  rw [ent_get rs j hl] at hj
  exact ⟨j, hl, by injection hj with hj; exact hj.symm⟩
def ks (rs : List R) : List Value := rs.map fun r => kv r.f
/-- What the index holds of the first k flights. -/
def Ix (rs : List R) (k : Nat) (l : List (Value × Value)) : Prop :=
  (l = ent (rs.take k) ∧ (ks (rs.take k)).Nodup) ∨ (l.length < k ∧ ¬ (ks (rs.take k)).Nodup)
theorem Ix.zero (rs : List R) : Ix rs 0 [] := .inl ⟨rfl, by simp [ks]⟩
theorem Ix.step {rs : List R} {k : Nat} {l l' : List (Value × Value)} (h : Ix rs k l) (hk : k < rs.length)
    (hu : ((∀ p ∈ l, p.1 ≠ kv rs[k].f) ∧ l' = l ++ [(kv rs[k].f, .int .i64 k)]) ∨ ∃ (j : Nat) (u : Value), l[j]? = some (kv rs[k].f, u) ∧ l' = l.set j (kv rs[k].f, .int .i64 k)) : Ix rs (k + 1) l' := by
  have htk : rs.take (k + 1) = rs.take k ++ [rs[k]] := List.take_succ_eq_append_getElem hk
  have hks : ks (rs.take (k + 1)) = ks (rs.take k) ++ [kv rs[k].f] := by rw [htk]; unfold ks; rw [List.map_append]; rfl
  have hlen : (rs.take k).length = k := by rw [List.length_take, Nat.min_eq_left (Nat.le_of_lt hk)]
  rcases h with ⟨rfl, hn⟩ | ⟨hl, hn⟩
  · rcases hu with ⟨h1, rfl⟩ | ⟨j, u, h1, rfl⟩
    · refine .inl ⟨by rw [htk, ent_append, hlen], ?_⟩
      rw [hks, List.nodup_append]
      refine ⟨hn, by simp, fun a ha b hb => ?_⟩
      simp at hb
      subst hb
      obtain ⟨r, hr, rfl⟩ := List.mem_map.1 ha
      obtain ⟨j, hj, rfl⟩ := List.getElem_of_mem hr
      exact h1 (kv (rs.take k)[j].f, .int .i64 j) (List.mem_iff_getElem?.2 ⟨j, ent_get _ j hj⟩)
    · refine .inr ⟨by rw [List.length_set, ent_len, hlen]; omega, fun hc => ?_⟩
      rw [hks, List.nodup_append] at hc
      have hm : (kv rs[k].f, u) ∈ ent (rs.take k) := List.mem_iff_getElem?.2 ⟨j, h1⟩
      obtain ⟨i, hi, he⟩ := ent_mem hm
      injection he with he _
      exact hc.2.2 (kv rs[k].f) (by rw [he]; exact List.mem_map.2 ⟨_, List.getElem_mem hi, rfl⟩) _ (by simp) rfl
  · refine .inr ⟨?_, fun hc => hn ?_⟩
    · rcases hu with ⟨h1, rfl⟩ | ⟨j, u, h1, rfl⟩
      · simp; omega
      · simp; omega
    · rw [hks, List.nodup_append] at hc
      exact hc.1
/-- A table at p. -/
structure Tab (w : World) (base p : Nat) (rs : List R) : Prop where
  at_ : ∃ A cap m, Rw.Blk w p 109 [.slice A rs.length cap, .map (some m)] ∧ Own w base (.slice A rs.length cap) rs ∧ Mp.MapL Tryz.prog 32 w m (ent rs) ∧ base ≤ m
  lo : base ≤ p
  nod : (ks rs).Nodup
  rise : Rise rs
/-- What New answers of flights that are right. -/
def NewIs (w : World) (rs : List R) (e : Ending) (w' : World) : Prop :=
  ((ks rs).Nodup ∧ ∃ p rs', e = .returned (.tuple #[.pointer (some ⟨p, 0, none⟩), .int .i64 0]) ∧ (rs'.map R.f).Perm (rs.map R.f) ∧ Tab w' w.heap.size p rs' ∧ Below w.heap.size w w') ∨
  (¬ (ks rs).Nodup ∧ e = .returned (.tuple #[.pointer none, .int .i64 8]) ∧ Below w.heap.size w w')
theorem ks_perm {rs rs' : List R} (h : (rs'.map R.f).Perm (rs.map R.f)) : (ks rs').Nodup ↔ (ks rs).Nodup := by
  have : (ks rs').Perm (ks rs) := by
    have := h.map kv
    simpa [ks, List.map_map, Function.comp_def] using this
  exact this.nodup_iff
/-- Behind copies and the map's making. -/
def Mid (w : World) (fs : List F) (n : Nat) (s : Value) (wx : World) : Prop :=
  ∃ p m A cap rs', s = .pointer (some ⟨p, 0, none⟩) ∧ Rw.Blk wx p 109 [.slice A n cap, .map (some m)] ∧ Own wx w.heap.size (.slice A n cap) rs' ∧ Mp.MapL Tryz.prog 32 wx m [] ∧ rs'.map R.f = fs ∧ w.heap.size ≤ p ∧ w.heap.size ≤ m ∧ Below w.heap.size w wx
theorem Own.low {w : World} {base base' : Nat} {v : Value} {rs : List R} (h : Own w base v rs) (hb : base' ≤ base) : Own w base' v rs where
  row := by
    obtain ⟨h1, h2 | ⟨g, cap, cur, hv, hg, h3⟩⟩ := h.row
    · exact ⟨h1, .inl h2⟩
    · exact ⟨h1, .inr ⟨g, cap, cur, hv, by omega, h3⟩⟩
  cls r hr := (h.cls r hr).more hb (Nat.le_refl _)
  wf := h.wf
theorem Mid.made1 {w W w4 : World} {fs : List F} {n cap1 : Nat} {A1 : Option Addr} {rs1 : List R} (hbr : Below w.heap.size w W) (H1 : rs1.map R.f = fs) (H2 : Own w4 W.heap.size (.slice A1 n cap1) rs1) (hb4 : Below W.heap.size W w4) :
    Mid w fs n (.pointer (some ⟨w4.heap.size + 1, 0, none⟩)) ((w4.alloc (.map #[] 0)).alloc (.cells #[.slice A1 n cap1, .map (some w4.heap.size)] 109)) := by
  have b1 : Below w4.heap.size w4 (w4.alloc (.map #[] 0)) := (Below.refl _ _).alloc (Nat.le_refl _) _
  have z1 : (w4.alloc (.map #[] 0)).heap.size = w4.heap.size + 1 := by simp
  have b2 : Below (w4.alloc (.map #[] 0)).heap.size (w4.alloc (.map #[] 0)) ((w4.alloc (.map #[] 0)).alloc (.cells #[.slice A1 n cap1, .map (some w4.heap.size)] 109)) := (Below.refl _ _).alloc (Nat.le_refl _) _
  have hz := hbr.size
  have hz4 := hb4.size
  have hk := Rw.Blk.made (w4.alloc (.map #[] 0)) 109 [.slice A1 n cap1, .map (some w4.heap.size)]
  rw [z1] at hk
  exact ⟨w4.heap.size + 1, w4.heap.size, A1, cap1, rs1, rfl, hk, ((H2.low hz).below b1).below b2, (Mp.MapL.made Tryz.prog 32 w4).kept (b2.block _ (by omega)), H1, by omega, by omega, (hbr.trans (hb4.mono hz)).trans ((b1.trans (b2.mono b1.size)).mono (by omega))⟩
theorem Mid.made2 {w W w4 : World} {fs : List F} {n cap1 : Nat} {A1 : Option Addr} {rs1 : List R} (hbr : Below w.heap.size w W) (H1 : rs1.map R.f = fs) (H2 : Own w4 (W.alloc (.map #[] 0)).heap.size (.slice A1 n cap1) rs1) (hb4 : Below (W.alloc (.map #[] 0)).heap.size (W.alloc (.map #[] 0)) w4) :
    Mid w fs n (.pointer (some ⟨w4.heap.size, 0, none⟩)) (w4.alloc (.cells #[.slice A1 n cap1, .map (some W.heap.size)] 109)) := by
  have b1 : Below w4.heap.size w4 (w4.alloc (.cells #[.slice A1 n cap1, .map (some W.heap.size)] 109)) := (Below.refl _ _).alloc (Nat.le_refl _) _
  have z1 : (W.alloc (.map #[] 0)).heap.size = W.heap.size + 1 := by simp
  have b0 : Below W.heap.size W (W.alloc (.map #[] 0)) := (Below.refl _ _).alloc (Nat.le_refl _) _
  have hz := hbr.size
  have hz4 := hb4.size
  have hk := Rw.Blk.made w4 109 [.slice A1 n cap1, .map (some W.heap.size)]
  exact ⟨w4.heap.size, W.heap.size, A1, cap1, rs1, rfl, hk, (H2.low (by omega)).below b1, ((Mp.MapL.made Tryz.prog 32 W).kept (hb4.block _ (by omega))).kept (b1.block _ (by omega)), H1, by omega, by omega, ((hbr.trans (b0.mono hz)).trans (hb4.mono (by omega))).trans (b1.mono (by omega))⟩
theorem Own.only {w w' : World} {base m : Nat} {v : Value} {rs : List R} {l : List (Value × Value)} (h : Own w base v rs) (hm : Mp.MapL Tryz.prog 32 w m l) (ho : Mp.Only m w w') : Own w' base v rs := by
  obtain ⟨es, ck, hb, _⟩ := hm
  have hne : ∀ (g : Nat) (cur : Array Value) (t : TypeId), w.heap[g]? = some (Obj.cells cur t (0, 0)) → w'.heap[g]? = w.heap[g]? := fun g cur t hg => ho.block g (fun e => by subst e; rw [hb] at hg; cases hg)
  refine ⟨?_, fun r hr => ((h.cls r hr).kept fun k cur _ _ hk => hne k cur _ hk).more (Nat.le_refl _) (Nat.le_of_eq ho.size.symm), h.wf⟩
  obtain ⟨h1, h2 | ⟨g, cap, cur, hv, hg, hh, h3⟩⟩ := h.row
  · exact ⟨h1, .inl h2⟩
  · exact ⟨h1, .inr ⟨g, cap, cur, hv, hg, (hne g cur _ hh).trans hh, h3⟩⟩
theorem blk_only {w w' : World} {m p : Nat} {t : TypeId} {cs : List Value} {l : List (Value × Value)} (h : Rw.Blk w p t cs) (hm : Mp.MapL Tryz.prog 32 w m l) (ho : Mp.Only m w w') : Rw.Blk w' p t cs := by
  obtain ⟨es, ck, hb, _⟩ := hm
  exact h.kept (ho.block p (fun e => by subst e; unfold Rw.Blk at h; rw [hb] at h; cases h))
theorem Own.at {w : World} {base n cap : Nat} {A : Option Addr} {rs : List R} (h : Own w base (.slice A n cap) rs) (k : Nat) (hk : k < rs.length) : ∃ b, A = some ⟨b, 0, none⟩ ∧ b < w.heap.size ∧ w.rangeAt b (k * 9) (enc rs[k]) := by
  obtain ⟨A', cap', hv, hF⟩ := h.fls
  injection hv with e1 e2 e3
  subst e1
  obtain ⟨_, ⟨hv', h0⟩ | ⟨g, cap2, cur, hv', hg, hh, h3⟩⟩ := h.row
  · omega
  · injection hv' with e1 e2 e3
    subst e1
    obtain ⟨b, off, e, hb, hc⟩ := hF.row (by omega)
    injection e with e
    injection e with e4 e5 e6
    subst e4 e5
    exact ⟨g, rfl, hb, by have := hc k hk; rwa [Nat.zero_add] at this⟩
theorem mapl_size {w : World} {m : Nat} {l : List (Value × Value)} (h : Mp.MapL Tryz.prog 32 w m l) : ∃ es ck, w.heap[m]? = some (.map es ck) ∧ es.size = l.length := by
  obtain ⟨es, ck, hb, he, _⟩ := h
  exact ⟨es, ck, hb, by rw [← he]; simp⟩
end Fl
end Go.Proofs.YtmcekicaigbccaaGreat
