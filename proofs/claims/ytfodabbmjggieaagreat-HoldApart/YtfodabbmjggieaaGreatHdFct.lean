/- Plain facts for the statements' walks. -/
import Derived.Test.YtfodabbmjggieaaGreatHdFrm
namespace Go.Proofs.YtfodabbmjggieaaGreat
open Go.RowKit Go.WideMaps
set_option linter.unusedVariables false

namespace Hd
theorem who_app {l : List (K × H)} {k k' : K} {h : H} (hn : who l k = none) : who (l ++ [(k, h)]) k' = if k' = k then some h else who l k' := by
  unfold who
  rw [List.find?_append]
  by_cases hk : k' = k
  · subst hk
    have : l.find? (fun e => decide (e.1 = k')) = none := by
      unfold who at hn
      simpa using hn
    rw [this, if_pos rfl]
    simp
  · rw [if_neg hk]
    cases hf : l.find? (fun e => decide (e.1 = k')) with
    | none => simp; exact fun e => hk e.symm
    | some e => simp
theorem who_del {l l' : List (K × H)} {k k' : K} {h : H} (hn : (l.map Prod.fst).Nodup) (hp : l.Perm ((k, h) :: l')) : who l' k' = if k' = k then none else who l k' := by
  have hn2 : (((k, h) :: l').map Prod.fst).Nodup := (hp.map Prod.fst).nodup_iff.1 hn
  simp only [List.map_cons, List.nodup_cons] at hn2
  by_cases hk : k' = k
  · subst hk
    rw [if_pos rfl]
    exact who_non fun e he e1 => hn2.1 (List.mem_map.2 ⟨e, he, e1⟩)
  · rw [if_neg hk]
    rcases who_cases l k' with ⟨n, h1, h2⟩ | ⟨h1, h2⟩
    · rw [h2]
      have : (k', n) ∈ (k, h) :: l' := hp.mem_iff.1 h1
      rcases List.mem_cons.1 this with e | e
      · exact absurd (congrArg Prod.fst e) hk
      · exact who_mem hn2.2 e
    · rw [h2]
      exact who_non fun e he => h1 e (hp.mem_iff.2 (List.mem_cons_of_mem _ he))
theorem At.chk_of {w : World} {Bt p t m cap : Nat} {A : Option Addr} {rs : List Fl.R} {gs : List (Nat × Pl.P)} {l : List (K × H)} {k : K} {h : H} (hA : At w Bt p t m A cap rs gs l) (hw : who l k = some h) : chk (rs.map Fl.R.f) (gs.map Prod.snd) k = 0 := (hA.val _ (who_some_mem hw)).1
theorem At.none_of {w : World} {Bt p t m cap : Nat} {A : Option Addr} {rs : List Fl.R} {gs : List (Nat × Pl.P)} {l : List (K × H)} {k : K} (hA : At w Bt p t m A cap rs gs l) (hc : chk (rs.map Fl.R.f) (gs.map Prod.snd) k ≠ 0) : who l k = none := by
  cases h : who l k with
  | none => rfl
  | some n => exact absurd (hA.chk_of h) hc
/-- What a Take leaves of whose the seats are. -/
theorem take_who {w w' : World} {Bt p t m cap : Nat} {A : Option Addr} {rs : List Fl.R} {gs : List (Nat × Pl.P)} {l : List (K × H)} {k : K} {h : H} {e : Ending} (hA : At w Bt p t m A cap rs gs l) (hT : TakeIs w Bt p t m A cap rs gs l k h e w') :
    e = .returned (.int .i64 (takeC (rs.map Fl.R.f) (gs.map Prod.snd) l k h)) ∧ ∃ l', At w' Bt p t m A cap rs gs l' ∧ Rw.Fr (· = m) w w' ∧ (∀ k', who l' k' = if k' = k ∧ takeC (rs.map Fl.R.f) (gs.map Prod.snd) l k h = 0 then some h else who l k') ∧ l'.length = l.length + (if takeC (rs.map Fl.R.f) (gs.map Prod.snd) l k h = 0 then 1 else 0) := by
  obtain ⟨he, l', h1, h2, h3⟩ := hT
  refine ⟨he, l', h1, h2, fun k' => ?_, ?_⟩
  · rcases h3 with ⟨h4, rfl⟩ | ⟨h4, rfl, _⟩
    · have hn : who l k = none := by
        unfold takeC at h4
        split at h4
        · cases hw : who l k with
          | none => rfl
          | some h' =>
            rw [hw] at h4
            simp only at h4
            split at h4 <;> cases h4
        · rename_i hc; exact absurd h4 hc
      rw [who_app hn]
      simp [h4]
    · simp [h4]
  · rcases h3 with ⟨h4, rfl⟩ | ⟨h4, rfl, _⟩
    · simp [h4]
    · simp [h4]
theorem free_who {w w' : World} {Bt p t m cap : Nat} {A : Option Addr} {rs : List Fl.R} {gs : List (Nat × Pl.P)} {l : List (K × H)} {k : K} {h : H} {e : Ending} (hA : At w Bt p t m A cap rs gs l) (hT : FreeIs w Bt p t m A cap rs gs l k h e w') :
    e = .returned (.int .i64 (freeC (rs.map Fl.R.f) (gs.map Prod.snd) l k h)) ∧ ∃ l', At w' Bt p t m A cap rs gs l' ∧ Rw.Fr (· = m) w w' ∧ (∀ k', who l' k' = if k' = k ∧ freeC (rs.map Fl.R.f) (gs.map Prod.snd) l k h = 0 then none else who l k') ∧ l.length = l'.length + (if freeC (rs.map Fl.R.f) (gs.map Prod.snd) l k h = 0 then 1 else 0) := by
  obtain ⟨he, l', h1, h2, h3⟩ := hT
  refine ⟨he, l', h1, h2, fun k' => ?_, ?_⟩
  · rcases h3 with ⟨h4, hp⟩ | ⟨h4, rfl, _⟩
    · rw [who_del hA.nod hp]
      simp [h4]
    · simp [h4]
  · rcases h3 with ⟨h4, hp⟩ | ⟨h4, rfl, _⟩
    · have := hp.length_eq
      simp [h4]
      simpa using this
    · simp [h4]
theorem acts_cells {w : World} {b o : Nat} {a : A} (h : w.rangeAt b o (acs a)) : w.cell? ⟨b, o, none⟩ = some (.int .i64 a.kind) ∧ w.cell? ⟨b, o + 1, none⟩ = some (.int .i64 a.fl) ∧ w.cell? ⟨b, o + 2, none⟩ = some (.string a.car) ∧ w.cell? ⟨b, o + 3, none⟩ = some (.int .i64 a.num) ∧ w.cell? ⟨b, o + 4, none⟩ = some (.int .i64 a.day) ∧ w.cell? ⟨b, o + 5, none⟩ = some (.int .i64 a.row) ∧ w.cell? ⟨b, o + 6, none⟩ = some (.int .u8 a.ltr) ∧ w.cell? ⟨b, o + 7, none⟩ = some (.string a.loc) ∧ w.cell? ⟨b, o + 8, none⟩ = some (.int .i64 a.pax) :=
  ⟨h 0 _ rfl, h 1 _ rfl, h 2 _ rfl, h 3 _ rfl, h 4 _ rfl, h 5 _ rfl, h 6 _ rfl, h 7 _ rfl, h 8 _ rfl⟩
theorem At.stored {w w' : World} {Bt p t m cap go : Nat} {A : Option Addr} {rs : List Fl.R} {gs : List (Nat × Pl.P)} {l : List (K × H)} {T : TypeId} {cs : List Value} (h : At w Bt p t m A cap rs gs l) (hk : Rw.Blk w go T cs) (hf : Rw.Fr (· = go) w w') (hB : Bt ≤ go) (h1 : 89 ≠ T) (h2 : 96 ≠ T) : At w' Bt p t m A cap rs gs l := by
  refine h.fr hf (fun k (hk : k = go) => by omega) (Rw.blk_ne h.blk hk h1) (fun (e : m = go) => ?_) (fun k (e : k = go) cur hc => ?_)
  · obtain ⟨es, ck, hb, _⟩ := h.map
    rw [e, show w.heap[go]? = _ from hk] at hb
    cases hb
  · rw [e, show w.heap[go]? = _ from hk] at hc
    injection hc with hc
    injection hc with _ hc
    exact h2 hc.symm
theorem zAct (w : World) : (zeroValue 41).run Tryz.prog w = .ok (.agg (acs ⟨0, 0, ⟨#[]⟩, 0, 0, 0, 0, ⟨#[]⟩, 0⟩).toArray) w := by kernel_rfl
theorem iAct : (Tryz.prog.info? 41).map (·.size) = some 9 := by kernel_rfl
theorem acs_one (a : A) : ∀ v ∈ acs a, v.oneCell' = true := by
  intro v hv
  simp only [acs, List.mem_cons, List.not_mem_nil, or_false] at hv
  rcases hv with rfl | rfl | rfl | rfl | rfl | rfl | rfl | rfl | rfl <;> rfl
theorem zSeat1 : ∀ v ∈ ([.int .i64 0, .int .u8 0] : List Value), v.oneCell' = true := by
  intro v hv; simp at hv; rcases hv with rfl | rfl <;> rfl
theorem seat1 {a b : Int} : ∀ v ∈ ([.int .i64 a, .int .u8 b] : List Value), v.oneCell' = true := by
  intro v hv; simp at hv; rcases hv with rfl | rfl <;> rfl
end Hd
end Go.Proofs.YtfodabbmjggieaaGreat
