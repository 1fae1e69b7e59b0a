/- Contracts: New, maps.Clone, Copy. -/
import Derived.Test.YtmcekicaigbccaaGreatStSell
import Derived.Shelf.SlMaps.Clone
namespace Go.Proofs.YtmcekicaigbccaaGreat
open Go.RowKit Go.WideMaps
set_option linter.unusedVariables false

namespace St
def NewIs (w : World) (Bt t : Nat) (rs : List Fl.R) (e : Ending) (w' : World) : Prop :=
  ∃ p m, e = .returned (.pointer (some ⟨p, 0, none⟩)) ∧ At w' Bt p t m rs [] ∧ w.heap.size ≤ p ∧ w.heap.size ≤ m ∧ Below w.heap.size w w'
end St
theorem snew_any (Bt t : Nat) (rs : List Fl.R) (w : World) (h : St.TabB w Bt t rs) (hB : Bt ≤ w.heap.size) (hr : ∀ r ∈ rs, Fl.right r.f = true) (hf : rs.length ≤ 64) :
    Calls Tryz.prog 25 #[.pointer (some ⟨t, 0, none⟩)] w (St.NewIs w Bt t rs) := by
  have hb1 : Below w.heap.size w (w.alloc (.map #[] 0)) := (Below.refl _ _).alloc (Nat.le_refl _) _
  have hz1 : (w.alloc (.map #[] 0)).heap.size = w.heap.size + 1 := by simp
  have hM := Mp.MapS.made Tryz.prog 77 w
  have hb2 : Below (w.alloc (.map #[] 0)).heap.size (w.alloc (.map #[] 0)) ((w.alloc (.map #[] 0)).alloc (.cells #[.pointer (some ⟨t, 0, none⟩), .map (some w.heap.size)] 75)) := (Below.refl _ _).alloc (Nat.le_refl _) _
  have hK : Rw.Blk ((w.alloc (.map #[] 0)).alloc (.cells #[.pointer (some ⟨t, 0, none⟩), .map (some w.heap.size)] 75)) (w.heap.size + 1) 75 [.pointer (some ⟨t, 0, none⟩), .map (some w.heap.size)] := by
    have := heap_alloc_new (w.alloc (.map #[] 0)) (.cells #[.pointer (some ⟨t, 0, none⟩), .map (some w.heap.size)] 75)
    rw [hz1] at this
    exact this
  have hbe := hb1.trans (hb2.mono hb1.size)
  have HA : Hid (St.At ((w.alloc (.map #[] 0)).alloc (.cells #[.pointer (some ⟨t, 0, none⟩), .map (some w.heap.size)] 75)) Bt (w.heap.size + 1) t w.heap.size rs []) :=
    ⟨h.fr (Rw.Fr.of_below (F := fun _ => False) hbe) (fun _ e => e.elim), hK, hM.kept (hb2.block _ (by rw [hz1]; omega)), by omega, hB, fun e he => by simp at he, hr, hf⟩
  have HBE := Lib.hid hbe
  have hmk : (Instr.makeMap 73 none).run Tryz.prog w = .ok (.map (some w.heap.size)) (w.alloc (.map #[] 0)) := by simp [Instr.makeMap, go_sem]
  clear h hr hb1 hb2 hM hK hz1 hbe
  go_enter Tryz.func25, Tryz.ntmps25
  go_wp2
  go_ret
  exact ⟨w.heap.size + 1, w.heap.size, rfl, HA.out, by omega, Nat.le_refl _, HBE.out⟩
set_option maxRecDepth 20000 in
theorem mclone_any (w : World) (b : Nat) (es : Array MapEntry) (clock : Nat) (hb : w.heap[b]? = some (.map es clock)) :
    Calls Tryz.prog 47 #[.map (some b)] w fun e w' => e = .returned (.map (some w.heap.size)) ∧ w' = w.alloc (.map es clock) := by
  have hq := fun w => run_eql_map_nil_sl (P := Tryz.prog) w 73 _ _ (some b) St.uSold
  go_enter Tryz.func47, Tryz.ntmps47
  go_wp2
  rw [run_callFunc_extern Tryz.func68 (by kernel_rfl) (by kernel_rfl) (by kernel_rfl) (e := Extern.MapsClone.clone) (by kernel_rfl), run_maps_clone_sl w 73 hb]
  simp only [Result.andThen]
  rw [Oper.upon_value]
  go_wp2
  rw [run_typeAssert_map_sl _ 73 20 _ _ _ St.uSold]
  simp only [Result.andThen]
  rw [Oper.upon_value]
  go_wp2
  go_ret
  exact ⟨rfl, rfl⟩
theorem smclone_any (Bt p t m : Nat) (rs : List Fl.R) (l : List (St.K × Int)) (w : World) (h : St.At w Bt p t m rs l) :
    Calls Tryz.prog 47 #[.map (some m)] w fun e w' => e = .returned (.map (some w.heap.size)) ∧ Mp.MapS Tryz.prog 77 w' w.heap.size (l.map St.ent) ∧ Below w.heap.size w w' ∧ w.heap.size < w'.heap.size := by
  obtain ⟨es, ck, hb, _⟩ := h.map.obj
  refine (mclone_any w m es ck hb).mono fun e w' ⟨he, hw⟩ => ⟨he, ?_, ?_, ?_⟩
  · rw [hw]; exact h.map.clone hb
  · rw [hw]; exact (Below.refl _ _).alloc (Nat.le_refl _) _
  · rw [hw]; simp
namespace St
def CopyIs (w : World) (Bt t : Nat) (rs : List Fl.R) (l : List (K × Int)) (e : Ending) (w' : World) : Prop :=
  ∃ p m, e = .returned (.pointer (some ⟨p, 0, none⟩)) ∧ At w' Bt p t m rs l ∧ w.heap.size ≤ p ∧ w.heap.size ≤ m ∧ Below w.heap.size w w'
end St
set_option maxHeartbeats 1000000 in
set_option maxRecDepth 20000 in
theorem copy_any (Bt p t m : Nat) (rs : List Fl.R) (l : List (St.K × Int)) (w : World) (h : St.At w Bt p t m rs l) :
    Calls Tryz.prog 23 #[.pointer (some ⟨p, 0, none⟩)] w (St.CopyIs w Bt t rs l) := by
  have HC := Lib.hid (fun W (hb : Below w.heap.size w W) => smclone_any Bt p t m rs l W (h.kept hb))
  have HS : Hid (∀ w', Below w.heap.size w w' → w'.cell? ⟨p, 0, none⟩ = some (.pointer (some ⟨t, 0, none⟩)) ∧ w'.cell? ⟨p, 1, none⟩ = some (.map (some m))) := fun w' hb => by
    have k2 := h.blk.below' hb
    exact ⟨k2.cell 0, k2.cell 1⟩
  have HF : Hid (∀ w4 w5 : World, Below w.heap.size w w4 → w.heap.size ≤ w4.heap.size → Mp.MapS Tryz.prog 77 w5 w4.heap.size (l.map St.ent) → Below w4.heap.size w4 w5 → w4.heap.size < w5.heap.size → ∀ w6 g, w5.heap.size ≤ g → Below w5.heap.size w5 w6 → Rw.Blk w6 g 75 [.pointer (some ⟨t, 0, none⟩), .map (some w4.heap.size)] → St.CopyIs w Bt t rs l (.returned (.pointer (some ⟨g, 0, none⟩))) w6) := fun w4 w5 b4 hz hM b5 hlt w6 g hg b6 hK => by
    have hbe := (b4.trans (b5.mono hz)).trans (b6.mono (Nat.le_trans hz b5.size))
    have hp := h.blk.lt
    have hlo := h.lop
    refine ⟨g, w4.heap.size, rfl, ⟨h.tab.fr (Rw.Fr.of_below (F := fun _ => False) hbe) (fun _ e => e.elim), hK, hM.kept (b6.block _ hlt), by omega, by omega, h.val, h.right, h.few⟩, by omega, hz, hbe⟩
  have hpl := h.blk.lt
  obtain ⟨k0, k1⟩ := HS.out w (Below.refl _ _)
  clear h
  go_enter Tryz.func23, Tryz.ntmps23
  go_wp2
  go_region_held3 (fun w' => w'.cell? ⟨p, 0, none⟩ = some (.pointer (some ⟨t, 0, none⟩)) ∧ w'.cell? ⟨p, 1, none⟩ = some (.map (some m))) (first | exact HS.out _ (Below.refl _ _) | exact HS.out _ (Below.refl _ _).drew | exact HS.out _ ((Below.refl _ _).drew.trans hb5) | exact HS.out _ (((Below.refl _ _).drew.trans hb5).trans (((Below.refl _ _).alloc (Nat.le_refl _) _).mono hb5.size))) (first
    | (go_at_call 47; refine (HC.out _ (Below.refl _ _).drew).mono ?_; rintro e w5 ⟨rfl, hM5, hb5, hz5⟩))
  go_wp2
  go_ret
  exact HF.out w.drew w5 (Below.refl _ _).drew (Nat.le_refl _) hM5 hb5 hz5 _ _ (Nat.le_refl _) ((Below.refl _ _).alloc (Nat.le_refl _) _) (heap_alloc_new w5 _)
end Go.Proofs.YtmcekicaigbccaaGreat
