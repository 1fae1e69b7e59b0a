/- Contracts: slices.Clone of maps, New, maps.Clone, Copy. -/
import Derived.Test.YtfodabbmjggieaaGreatHdFree
import Derived.Test.YtfodabbmjggieaaGreatG2
import Derived.Shelf.SlMaps.Clone
namespace Go.Proofs.YtfodabbmjggieaaGreat
open Go.RowKit Go.WideMaps Go.Sort Go.Shelf
set_option linter.unusedVariables false

noncomputable def ptrI : TypeInfo := (Tryz.prog.info? 96).get (by kernel_rfl)
namespace Hd
theorem ptrs_len (gs : List (Nat × Pl.P)) : (ptrs gs).length = gs.length := by simp [ptrs]
theorem ptrs_one (gs : List (Nat × Pl.P)) : ∀ v ∈ ptrs gs, v.oneCell' = true := by
  intro v hv
  obtain ⟨g, _, rfl⟩ := List.mem_map.1 hv
  rfl
end Hd
theorem pclone_any (base : Nat) (A : Option Addr) (cap : Nat) (gs : List (Nat × Pl.P)) (w : World) (h : Hd.OwnP w base (.slice A gs.length cap) gs) (hl : gs.length ≤ 8) :
    Calls Tryz.prog 48 #[.slice A gs.length cap] w fun e w' => ∃ A' cap', e = .returned (.slice A' gs.length cap') ∧ Hd.OwnP w' w.heap.size (.slice A' gs.length cap') gs ∧ Below w.heap.size w w' := by
  obtain ⟨_, ⟨hv, h0⟩ | ⟨g, cap2, cur, hv, hg, hh, hcap, _, hsz, htk⟩⟩ := h
  · injection hv with e1 e2 e3
    have h1 : gs = [] := List.eq_nil_of_length_eq_zero h0
    subst h1 e1 e3
    exact (Go.Proofs.AnyE.slices_Clone_nil Tryz.cloneP 0 0 w).mono fun e w' ⟨he, hw⟩ => ⟨none, 0, he, ⟨rfl, .inl ⟨rfl, rfl⟩⟩, hw ▸ Below.refl _ _⟩
  · injection hv with e1 e2 e3
    subst e1 e3
    refine (Go.Proofs.AnyE.slices_Clone Tryz.cloneP ptrI (.pointer none) 1 8 (by kernel_rfl) (by kernel_rfl) (by kernel_rfl) (by kernel_rfl) rfl (by decide) Tryz.sizeOf96 g 0 gs.length cap (Hd.ptrs gs) w (by rw [Hd.ptrs_len]; omega) (by unfold maxLen; omega) (by omega) (fun j v hj => ?_) (Hd.ptrs_one gs)).mono fun e w' ⟨v', he, hown, hne, hb⟩ => ?_
    · have hj2 : j < gs.length := by have := (List.getElem?_eq_some_iff.1 hj).1; rwa [Hd.ptrs_len] at this
      rw [← htk, List.getElem?_take_of_lt (by omega)] at hj
      rw [cell_of_row _ _ _ _ _ _ hh, Nat.zero_add]
      simpa using hj
    · have hO : Hd.OwnP w' w.heap.size v' gs := hown
      obtain ⟨A', cap', hv'⟩ := hO.slice
      subst hv'
      exact ⟨A', cap', he, hO, hb⟩
namespace Hd
def NewIs (w : World) (t : Nat) (rs : List Fl.R) (gs : List (Nat × Pl.P)) (e : Ending) (w' : World) : Prop :=
  ∃ p m A cap, e = .returned (.pointer (some ⟨p, 0, none⟩)) ∧ At w' w.heap.size p t m A cap rs gs [] ∧ Below w.heap.size w w'
end Hd
set_option maxHeartbeats 1000000 in
set_option maxRecDepth 20000 in
theorem hnew_any (base t : Nat) (A : Option Addr) (cap : Nat) (rs : List Fl.R) (gs : List (Nat × Pl.P)) (w : World) (hE : Hd.Env w t rs gs) (hO : Hd.OwnP w base (.slice A gs.length cap) gs) (hr : ∀ r ∈ rs, Fl.right r.f = true) (hf : rs.length ≤ 64) (hp : ∀ g ∈ gs, Pl.rowsOk g.2 = true ∧ Pl.lettersOk g.2.lt = true) (hg : gs.length ≤ 8) :
    Calls Tryz.prog 28 #[.pointer (some ⟨t, 0, none⟩), .slice A gs.length cap] w (Hd.NewIs w t rs gs) := by
  have HC := Lib.hid (pclone_any base A cap gs w hO hg)
  have HF : Hid (∀ (w2 w4 : World) (A' : Option Addr) (cap' : Nat), Hd.OwnP w2 w.heap.size (.slice A' gs.length cap') gs → Below w.heap.size w w2 → Rw.Blk w4 (w2.alloc (.map #[] 0)).heap.size 89 [.pointer (some ⟨t, 0, none⟩), .slice A' gs.length cap', .map (some w2.heap.size)] → Below (w2.alloc (.map #[] 0)).heap.size (w2.alloc (.map #[] 0)) w4 → ∀ g, g = (w2.alloc (.map #[] 0)).heap.size → Hd.NewIs w t rs gs (.returned (.pointer (some ⟨g, 0, none⟩))) w4) := fun w2 w4 A' cap' hO2 hb2 hK hb4 g hg9 => by
    subst hg9
    have hbm : Below w2.heap.size w2 (w2.alloc (.map #[] 0)) := (Below.refl _ _).alloc (Nat.le_refl _) _
    have hb24 := hbm.trans (hb4.mono hbm.size)
    have hbe := hb2.trans (hb24.mono hb2.size)
    have hM := Mp.MapS.made Tryz.prog 91 w2
    have hs := hb2.size
    refine ⟨_, w2.heap.size, A', cap', rfl, ⟨(Hd.EnvB.of hE).fr (Rw.Fr.of_below (F := fun _ => False) hbe) (fun _ e => e.elim), hK, hO2.below hb24, hM.kept (hb4.block _ (by simp)), by simp; omega, hs, fun e he => by simp at he, hr, hf, hp, hg⟩, hbe⟩
  have hmm := @run_makeMap Tryz.prog
  clear hE hO hr hf hp hg
  generalize gs.length = n at *
  go_enter Tryz.func28, Tryz.ntmps28
  go_wp2_with (first
    | (go_at_call 48; refine HC.out.mono ?_; rintro e w2 ⟨A2, cap2, rfl, hO2, hb2⟩; have HX := Lib.hid (fun w4 => HF.out w2 w4 A2 cap2 hO2 hb2); clear hO2 hb2)
    | (refine Rw.wpList_box rfl 89 _ rfl [.pointer (some ⟨t, 0, none⟩), .slice A2 n cap2, .map (some w2.heap.size)] rfl ?_; intro w4 K4 b4 z4))
  go_ret
  exact HX.out _ K4 b4 _ (by simp)
set_option maxRecDepth 20000 in
theorem mclone_any (w : World) (b : Nat) (es : Array MapEntry) (clock : Nat) (hb : w.heap[b]? = some (.map es clock)) :
    Calls Tryz.prog 40 #[.map (some b)] w fun e w' => e = .returned (.map (some w.heap.size)) ∧ w' = w.alloc (.map es clock) := by
  have hq := fun w => run_eql_map_nil_sl (P := Tryz.prog) w 87 _ _ (some b) Hd.uHeld
  go_enter Tryz.func40, Tryz.ntmps40
  go_wp2
  rw [run_callFunc_extern Tryz.func62 (by kernel_rfl) (by kernel_rfl) (by kernel_rfl) (e := Extern.MapsClone.clone) (by kernel_rfl), run_maps_clone_sl w 87 hb]
  simp only [Result.andThen]
  rw [Oper.upon_value]
  go_wp2
  rw [run_typeAssert_map_sl _ 87 20 _ _ _ Hd.uHeld]
  simp only [Result.andThen]
  rw [Oper.upon_value]
  go_wp2
  go_ret
  exact ⟨rfl, rfl⟩
theorem hmclone_any (Bt p t m : Nat) (A : Option Addr) (cap : Nat) (rs : List Fl.R) (gs : List (Nat × Pl.P)) (l : List (Hd.K × Hd.H)) (w : World) (h : Hd.At w Bt p t m A cap rs gs l) :
    Calls Tryz.prog 40 #[.map (some m)] w fun e w' => e = .returned (.map (some w.heap.size)) ∧ Mp.MapS Tryz.prog 91 w' w.heap.size (l.map Hd.ent) ∧ Below w.heap.size w w' ∧ w.heap.size < w'.heap.size := by
  obtain ⟨es, ck, hb, _⟩ := h.map.obj
  refine (mclone_any w m es ck hb).mono fun e w' ⟨he, hw⟩ => ⟨he, ?_, ?_, ?_⟩
  · rw [hw]; exact h.map.clone hb
  · rw [hw]; exact (Below.refl _ _).alloc (Nat.le_refl _) _
  · rw [hw]; simp
namespace Hd
def CopyIs (w : World) (Bt t : Nat) (A : Option Addr) (cap : Nat) (rs : List Fl.R) (gs : List (Nat × Pl.P)) (l : List (K × H)) (e : Ending) (w' : World) : Prop :=
  ∃ p m, e = .returned (.pointer (some ⟨p, 0, none⟩)) ∧ At w' Bt p t m A cap rs gs l ∧ w.heap.size ≤ p ∧ w.heap.size ≤ m ∧ Below w.heap.size w w'
end Hd
set_option maxHeartbeats 1000000 in
set_option maxRecDepth 20000 in
theorem hcopy_any (Bt p t m : Nat) (A : Option Addr) (cap : Nat) (rs : List Fl.R) (gs : List (Nat × Pl.P)) (l : List (Hd.K × Hd.H)) (w : World) (h : Hd.At w Bt p t m A cap rs gs l) :
    Calls Tryz.prog 24 #[.pointer (some ⟨p, 0, none⟩)] w (Hd.CopyIs w Bt t A cap rs gs l) := by
  have HC := Lib.hid (fun W (hb : Below w.heap.size w W) => hmclone_any Bt p t m A cap rs gs l W (h.kept hb))
  have HS : Hid (∀ w', Below w.heap.size w w' → w'.cell? ⟨p, 0, none⟩ = some (.pointer (some ⟨t, 0, none⟩)) ∧ w'.cell? ⟨p, 1, none⟩ = some (.slice A gs.length cap) ∧ w'.cell? ⟨p, 2, none⟩ = some (.map (some m))) := fun w' hb => by
    have k2 := h.blk.below' hb
    exact ⟨k2.cell 0, k2.cell 1, k2.cell 2⟩
  have HF : Hid (∀ w4 w5 : World, Below w.heap.size w w4 → w.heap.size ≤ w4.heap.size → Mp.MapS Tryz.prog 91 w5 w4.heap.size (l.map Hd.ent) → Below w4.heap.size w4 w5 → w4.heap.size < w5.heap.size → ∀ w6 g, w5.heap.size ≤ g → Below w5.heap.size w5 w6 → Rw.Blk w6 g 89 [.pointer (some ⟨t, 0, none⟩), .slice A gs.length cap, .map (some w4.heap.size)] → Hd.CopyIs w Bt t A cap rs gs l (.returned (.pointer (some ⟨g, 0, none⟩))) w6) := fun w4 w5 b4 hz hM b5 hlt w6 g hg b6 hK => by
    have hbe := (b4.trans (b5.mono hz)).trans (b6.mono (Nat.le_trans hz b5.size))
    have hp := h.blk.lt
    have hlo := h.lop
    refine ⟨g, w4.heap.size, rfl, ⟨h.env.fr (Rw.Fr.of_below (F := fun _ => False) hbe) (fun _ e => e.elim), hK, h.row.below hbe, hM.kept (b6.block _ hlt), by omega, by omega, h.val, h.right, h.few, h.pok, h.pfew⟩, by omega, hz, hbe⟩
  have hpl := h.blk.lt
  obtain ⟨k0, k1, k2⟩ := HS.out w (Below.refl _ _)
  clear h
  generalize gs.length = n at *
  go_enter Tryz.func24, Tryz.ntmps24
  go_wp2
  go_region_held3 (fun w' => w'.cell? ⟨p, 0, none⟩ = some (.pointer (some ⟨t, 0, none⟩)) ∧ w'.cell? ⟨p, 1, none⟩ = some (.slice A n cap) ∧ w'.cell? ⟨p, 2, none⟩ = some (.map (some m))) (first | exact HS.out _ (Below.refl _ _) | exact HS.out _ (Below.refl _ _).drew | exact HS.out _ ((Below.refl _ _).drew.trans hb5) | exact HS.out _ (((Below.refl _ _).drew.trans hb5).trans (((Below.refl _ _).alloc (Nat.le_refl _) _).mono hb5.size))) (first
    | (go_at_call 40; refine (HC.out _ (Below.refl _ _).drew).mono ?_; rintro e w5 ⟨rfl, hM5, hb5, hz5⟩))
  go_wp2
  go_ret
  exact HF.out w.drew w5 (Below.refl _ _).drew (Nat.le_refl _) hM5 hb5 hz5 _ _ (Nat.le_refl _) ((Below.refl _ _).alloc (Nat.le_refl _) _) (heap_alloc_new w5 _)
end Go.Proofs.YtfodabbmjggieaaGreat
