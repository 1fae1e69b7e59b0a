/- begun of the statements. -/
import Derived.Test.YtmcekicaigbccaaGreatStBeg
namespace Go.Proofs.YtmcekicaigbccaaGreat
open Go.RowKit Go.WideMaps
set_option linter.unusedVariables false

namespace St
/-- There is a table of these flights. -/
def Good (rs : List Fl.R) : Prop := rs.length ≤ 64 ∧ Fl.newCode rs = 0
theorem newCode0 {rs : List Fl.R} (h : Fl.newCode rs = 0) : (∀ r ∈ rs, Fl.right r.f = true) ∧ (Fl.ks rs).Nodup := by
  unfold Fl.newCode at h
  split at h
  · rename_i h1
    split at h
    · rename_i h2
      exact ⟨by rw [List.all_eq_true] at h1; exact h1, h2⟩
    · cases h
  · cases h
/-- What begun leaves where there is a table. -/
def BegunIs (w : World) (rs : List Fl.R) (e : Ending) (w' : World) : Prop :=
  ∃ Bt p t m rs', e = .returned (.tuple #[.pointer (some ⟨p, 0, none⟩), .bool true]) ∧ At w' Bt p t m rs' [] ∧ (rs'.map Fl.R.f).Perm (rs.map Fl.R.f) ∧ w.heap.size ≤ p ∧ w.heap.size ≤ m ∧ Below w.heap.size w w'
end St
theorem new_ok (A : Option Addr) (rs : List Fl.R) (cap B : Nat) (w : World) (h : Fl.Fls w B A rs) (hB : B ≤ w.heap.size) (hg : St.Good rs) :
    Calls Tryz.prog 24 #[.slice A rs.length cap] w fun e w' => ∃ t rs', e = .returned (.tuple #[.pointer (some ⟨t, 0, none⟩), .int .i64 0]) ∧ (rs'.map Fl.R.f).Perm (rs.map Fl.R.f) ∧ Fl.Tab w' w.heap.size t rs' ∧ Below w.heap.size w w' := by
  obtain ⟨h1, h2⟩ := hg
  obtain ⟨h3, h4⟩ := St.newCode0 h2
  refine (new_right A rs cap B w h hB h1 h3 (fun r hr => ?_)).mono fun e w' hh => ?_
  · have := h3 r hr
    unfold Fl.right Fl.clsOk at this
    simp only [Bool.and_eq_true, decide_eq_true_eq] at this
    have := this.1.2.1.2
    omega
  · rcases hh with ⟨_, t, rs', he, hp, hT, hb⟩ | ⟨hn, _⟩
    · exact ⟨t, rs', he, hp, hT, hb⟩
    · exact absurd h4 hn
theorem begun_many (A : Option Addr) (n cap : Nat) (w : World) (hn : 64 < n) (hn2 : n ≤ 9223372036854775807) : Calls Tryz.prog 9 #[.slice A n cap] w fun e w' => e = .returned (.tuple #[.pointer none, .bool false]) ∧ Below w.heap.size w w' := by
  go_enter Tryz.func9, Tryz.ntmps9
  go_wp2
  go_ret2
  exact ⟨rfl, Below.refl _ _⟩
theorem begun_bad (A : Option Addr) (rs : List Fl.R) (cap B : Nat) (w : World) (h : Fl.Fls w B A rs) (hB : B ≤ w.heap.size) (hn : rs.length ≤ 64) (hc : Fl.newCode rs ≠ 0) : Calls Tryz.prog 9 #[.slice A rs.length cap] w fun e w' => e = .returned (.tuple #[.pointer none, .bool false]) ∧ Below w.heap.size w w' := by
  have HN := Lib.hid (rnew_any A rs cap B w h hB hn)
  have h1 : (Fl.newCode rs != 0) = true := by simp [hc]
  clear h hc
  generalize Fl.newCode rs = cd at *
  go_enter Tryz.func9, Tryz.ntmps9
  go_wp2_with (go_at_call 26; refine HN.out.mono ?_; rintro e w2 ⟨rfl, hb2⟩)
  go_ret2
  exact ⟨rfl, hb2⟩
set_option maxHeartbeats 1000000 in
theorem begun_ok (A : Option Addr) (rs : List Fl.R) (cap B : Nat) (w : World) (h : Fl.Fls w B A rs) (hB : B ≤ w.heap.size) (hg : St.Good rs) : Calls Tryz.prog 9 #[.slice A rs.length cap] w (St.BegunIs w rs) := by
  have HN := Lib.hid (rnew_any A rs cap B w h hB hg.1)
  rw [hg.2] at HN
  have HW := Lib.hid (fun W (hb : Below w.heap.size w W) => new_ok A rs cap B W (h.below hb hB) (Nat.le_trans hB hb.size) hg)
  have hl := hg.1
  have HR : Hid (∀ rs' : List Fl.R, (rs'.map Fl.R.f).Perm (rs.map Fl.R.f) → (∀ r ∈ rs', Fl.right r.f = true) ∧ rs'.length ≤ 64) := fun rs' hp => by
    refine ⟨fun r hr => ?_, ?_⟩
    · have : r.f ∈ rs.map Fl.R.f := hp.mem_iff.1 (List.mem_map.2 ⟨r, hr, rfl⟩)
      obtain ⟨q, hq, e⟩ := List.mem_map.1 this
      rw [← e]
      exact (St.newCode0 hg.2).1 q hq
    · have := hp.length_eq
      simp at this
      omega
  clear h hg
  go_enter Tryz.func9, Tryz.ntmps9
  go_wp2_with (first
    | (go_at_call 26; refine HN.out.mono ?_; rintro e w2 ⟨rfl, hb2⟩; have HB2 := Lib.hid hb2)
    | (go_at_call 24; refine (HW.out _ HB2.out).mono ?_; rintro e w3 ⟨t, rs', rfl, hp, hT, hb3⟩; have HB3 := Lib.hid (HB2.out.trans (hb3.mono HB2.out.size)); have HT := Lib.hid hT; have HP := Lib.hid hp; clear hp hT)
    | (go_at_call 25; refine (snew_any w3.heap.size t rs' w3 ⟨w3, _, rfl, HT.out, Below.refl _ _⟩ (Nat.le_refl _) (HR.out rs' HP.out).1 (HR.out rs' HP.out).2).mono ?_; rintro e w4 ⟨p, m, rfl, hA, hp4, hm4, hb4⟩; have HA := Lib.hid hA; clear hA))
  go_ret2
  have hs3 := HB3.out.size
  exact ⟨w3.heap.size, p, t, m, rs', rfl, HA.out, HP.out, by omega, by omega, HB3.out.trans (hb4.mono hs3)⟩
end Go.Proofs.YtmcekicaigbccaaGreat
