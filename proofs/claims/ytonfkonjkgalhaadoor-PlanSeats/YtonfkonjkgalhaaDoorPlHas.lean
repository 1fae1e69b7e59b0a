/- Contracts of Has, Number, Marks, words, isSet. -/
import Derived.Test.YtonfkonjkgalhaaDoorPlLook
namespace Go.Proofs.YtonfkonjkgalhaaDoor
open Go.RowKit Go.WideMaps
set_option linter.unusedVariables false

namespace Pl
theorem Found.has {p : P} {s : S} {n : Int} {bq there : Bool} {t : ByteArray} (h : Found p s n bq there t) : hasS p s = (there && !bq) := by
  obtain ⟨h1, h2, _⟩ := h
  unfold hasS
  rw [← h1]
  cases there
  · rfl
  · rw [(h2 rfl).2]
theorem Found.num {p : P} {s : S} {n : Int} {bq : Bool} {t : ByteArray} (h : Found p s n bq true t) : Pl.num p s = n := ((h.2.1 rfl).1).symm
theorem Found.non {p : P} {s : S} {n : Int} {bq : Bool} {t : ByteArray} (h : Found p s n bq false t) : Pl.num p s = -1 := by
  have : s ∉ all p := by simpa using h.1.symm
  unfold Pl.num
  rw [if_neg this]
end Pl
set_option maxHeartbeats 1000000 in
set_option maxRecDepth 20000 in
theorem has_any (p : Pl.P) (s : Pl.S) (base g : Nat) (w : World) (hl : Pl.lettersOk p.lt = true) (hm : Pl.MapAt w base g p (Pl.pls p)) (hs : Pl.WS s) :
    Calls Tryd.prog 23 #[.pointer (some ⟨g, 0, none⟩), Pl.sv s] w fun e w' => e = .returned (.bool (Pl.hasS p s)) ∧ Below w.heap.size w w' := by
  obtain ⟨A, cap, m, H1, H2, H3, h4⟩ := hm.at_
  obtain ⟨n, bq, there, t, hF, hL, _⟩ := Pl.look hl H3 hs
  have HF : Hid (Pl.hasS p s = (there && !bq)) := hF.has
  have HML := H3.lt
  have HGL := H1.lt
  have HG := Lib.hid H1
  have HL := Lib.hid hL
  clear hL hF H1 H2 H3 hm hs hl
  generalize Pl.hasS p s = res at *
  obtain ⟨s1, s2⟩ := s
  unfold Pl.sv at HL ⊢
  simp only at HL ⊢
  obtain ⟨w1, ew1⟩ : ∃ w1, w1 = w.alloc (.cells #[.int .i64 s1, .int .u8 s2] 23) := ⟨_, rfl⟩
  have hb1 : Below w.heap.size w w1 := by rw [ew1]; exact (Below.refl _ _).alloc (Nat.le_refl _) _
  have HB1 := Lib.hid hb1
  have hz1 : w.heap.size < w1.heap.size := by rw [ew1]; simp
  have hrun := HL.out w1.drew (hb1.block m HML)
  have cg : w1.cell? ⟨g, 1, none⟩ = some (.map (some m)) := ((HG.out.below' hb1).cell 1).trans rfl
  have HK : Rw.Blk w1 w.heap.size 23 [.int .i64 s1, .int .u8 s2] := by rw [ew1]; exact heap_alloc_new w _
  have cs0 : w1.cell? ⟨w.heap.size, 0, none⟩ = some (.int .i64 s1) := (HK.cell 0).trans rfl
  have cs1 : w1.cell? ⟨w.heap.size, 1, none⟩ = some (.int .u8 s2) := (HK.cell 1).trans rfl
  have ba : Below w1.heap.size w1 (w1.alloc (.cells #[.int .i64 0, .bool false, .string ⟨#[]⟩] 75)) := (Below.refl _ _).alloc (Nat.le_refl _) _
  have hrun2 := HL.out (w1.alloc (.cells #[.int .i64 0, .bool false, .string ⟨#[]⟩] 75)).drew ((ba.block m (by have := hb1.size; omega)).trans (hb1.block m HML))
  have cg2 : (w1.alloc (.cells #[.int .i64 0, .bool false, .string ⟨#[]⟩] 75)).cell? ⟨g, 1, none⟩ = some (.map (some m)) := (ba.cell (p := ⟨g, 1, none⟩) (by have := hb1.size; show g < _; omega)).trans cg
  have cs02 : (w1.alloc (.cells #[.int .i64 0, .bool false, .string ⟨#[]⟩] 75)).cell? ⟨w.heap.size, 0, none⟩ = some (.int .i64 s1) := (ba.cell (p := ⟨w.heap.size, 0, none⟩) hz1).trans cs0
  have cs12 : (w1.alloc (.cells #[.int .i64 0, .bool false, .string ⟨#[]⟩] 75)).cell? ⟨w.heap.size, 1, none⟩ = some (.int .u8 s2) := (ba.cell (p := ⟨w.heap.size, 1, none⟩) hz1).trans cs1
  have hzw := hb1.size
  clear HK ba
  cases there with
  | true =>
    go_enter Tryd.func23, Tryd.ntmps23
    go_wp2
    rw [← ew1]
    clear ew1 hb1
    go_region
    all_goals go_wp2
    all_goals go_ret
    all_goals exact ⟨Pl.ret_bool (by rw [HF.out]; rfl), HB1.out.trans (Below.mono (by exact ((Below.refl _ _).alloc (Nat.le_refl _) _).drew) (Nat.le_of_lt hz1))⟩
  | false =>
    go_enter Tryd.func23, Tryd.ntmps23
    go_wp2
    rw [← ew1]
    clear ew1 hb1
    go_region
    all_goals go_wp2
    all_goals go_ret
    all_goals exact ⟨Pl.ret_bool (by rw [HF.out]; rfl), HB1.out.trans (Below.mono (by exact ((Below.refl _ _).alloc (Nat.le_refl _) _).drew) (Nat.le_of_lt hz1))⟩
set_option maxHeartbeats 1000000 in
set_option maxRecDepth 20000 in
theorem number_any (p : Pl.P) (s : Pl.S) (base g : Nat) (w : World) (hl : Pl.lettersOk p.lt = true) (hm : Pl.MapAt w base g p (Pl.pls p)) (hs : Pl.WS s) :
    Calls Tryd.prog 25 #[.pointer (some ⟨g, 0, none⟩), Pl.sv s] w fun e w' => e = .returned (.int .i64 (Pl.num p s)) ∧ Below w.heap.size w w' := by
  obtain ⟨A, cap, m, H1, H2, H3, h4⟩ := hm.at_
  obtain ⟨n, bq, there, t, hF, hL, _⟩ := Pl.look hl H3 hs
  have HFT : Hid (there = true → Pl.num p s = n) := fun e => by subst e; exact hF.num
  have HFN : Hid (there = false → Pl.num p s = -1) := fun e => by subst e; exact hF.non
  have HML := H3.lt
  have HGL := H1.lt
  have HG := Lib.hid H1
  have HL := Lib.hid hL
  clear hL hF H1 H2 H3 hm hs hl
  generalize Pl.num p s = res at *
  obtain ⟨s1, s2⟩ := s
  unfold Pl.sv at HL ⊢
  simp only at HL ⊢
  obtain ⟨w1, ew1⟩ : ∃ w1, w1 = w.alloc (.cells #[.int .i64 s1, .int .u8 s2] 23) := ⟨_, rfl⟩
  have hb1 : Below w.heap.size w w1 := by rw [ew1]; exact (Below.refl _ _).alloc (Nat.le_refl _) _
  have HB1 := Lib.hid hb1
  have hz1 : w.heap.size < w1.heap.size := by rw [ew1]; simp
  have hrun := HL.out w1.drew (hb1.block m HML)
  have cg : w1.cell? ⟨g, 1, none⟩ = some (.map (some m)) := ((HG.out.below' hb1).cell 1).trans rfl
  have HK : Rw.Blk w1 w.heap.size 23 [.int .i64 s1, .int .u8 s2] := by rw [ew1]; exact heap_alloc_new w _
  have cs0 : w1.cell? ⟨w.heap.size, 0, none⟩ = some (.int .i64 s1) := (HK.cell 0).trans rfl
  have cs1 : w1.cell? ⟨w.heap.size, 1, none⟩ = some (.int .u8 s2) := (HK.cell 1).trans rfl
  have ba : Below w1.heap.size w1 (w1.alloc (.cells #[.int .i64 0, .bool false, .string ⟨#[]⟩] 75)) := (Below.refl _ _).alloc (Nat.le_refl _) _
  have hrun2 := HL.out (w1.alloc (.cells #[.int .i64 0, .bool false, .string ⟨#[]⟩] 75)).drew ((ba.block m (by have := hb1.size; omega)).trans (hb1.block m HML))
  have cg2 : (w1.alloc (.cells #[.int .i64 0, .bool false, .string ⟨#[]⟩] 75)).cell? ⟨g, 1, none⟩ = some (.map (some m)) := (ba.cell (p := ⟨g, 1, none⟩) (by have := hb1.size; show g < _; omega)).trans cg
  have cs02 : (w1.alloc (.cells #[.int .i64 0, .bool false, .string ⟨#[]⟩] 75)).cell? ⟨w.heap.size, 0, none⟩ = some (.int .i64 s1) := (ba.cell (p := ⟨w.heap.size, 0, none⟩) hz1).trans cs0
  have cs12 : (w1.alloc (.cells #[.int .i64 0, .bool false, .string ⟨#[]⟩] 75)).cell? ⟨w.heap.size, 1, none⟩ = some (.int .u8 s2) := (ba.cell (p := ⟨w.heap.size, 1, none⟩) hz1).trans cs1
  have hzw := hb1.size
  clear HK ba
  cases there with
  | true =>
    go_enter Tryd.func25, Tryd.ntmps25
    go_wp2
    rw [← ew1]
    clear ew1 hb1
    go_region
    all_goals go_wp2
    all_goals go_ret
    all_goals exact ⟨Pl.ret_int (HFT.out (by trivial)).symm, HB1.out.trans (Below.mono (by exact ((Below.refl _ _).alloc (Nat.le_refl _) _).drew) (Nat.le_of_lt hz1))⟩
  | false =>
    go_enter Tryd.func25, Tryd.ntmps25
    go_wp2
    rw [← ew1]
    clear ew1 hb1
    go_region
    all_goals go_wp2
    all_goals go_ret
    all_goals exact ⟨Pl.ret_int (HFN.out (by trivial)).symm, HB1.out.trans (Below.mono (by exact ((Below.refl _ _).alloc (Nat.le_refl _) _).drew) (Nat.le_of_lt hz1))⟩
set_option maxHeartbeats 1000000 in
set_option maxRecDepth 20000 in
theorem mark_any (p : Pl.P) (s : Pl.S) (base g : Nat) (w : World) (hl : Pl.lettersOk p.lt = true) (hm : Pl.MapAt w base g p (Pl.pls p)) (hs : Pl.WS s) :
    Calls Tryd.prog 27 #[.pointer (some ⟨g, 0, none⟩), Pl.sv s] w fun e w' => e = .returned (.string (Pl.mkS p s)) ∧ Below w.heap.size w w' := by
  obtain ⟨A, cap, m, H1, H2, H3, h4⟩ := hm.at_
  obtain ⟨n, bq, there, t, hF, _, hL⟩ := Pl.look hl H3 hs
  have HF : Hid (t = Pl.mkS p s) := hF.2.2
  have HML := H3.lt
  have HGL := H1.lt
  have HG := Lib.hid H1
  have HL := Lib.hid hL
  clear hL hF H1 H2 H3 hm hs hl
  generalize Pl.mkS p s = res at *
  obtain ⟨s1, s2⟩ := s
  unfold Pl.sv at HL ⊢
  simp only at HL ⊢
  obtain ⟨w1, ew1⟩ : ∃ w1, w1 = w.alloc (.cells #[.int .i64 s1, .int .u8 s2] 23) := ⟨_, rfl⟩
  have hb1 : Below w.heap.size w w1 := by rw [ew1]; exact (Below.refl _ _).alloc (Nat.le_refl _) _
  have HB1 := Lib.hid hb1
  have hz1 : w.heap.size < w1.heap.size := by rw [ew1]; simp
  have hrun := HL.out w1.drew (hb1.block m HML)
  have cg : w1.cell? ⟨g, 1, none⟩ = some (.map (some m)) := ((HG.out.below' hb1).cell 1).trans rfl
  have HK : Rw.Blk w1 w.heap.size 23 [.int .i64 s1, .int .u8 s2] := by rw [ew1]; exact heap_alloc_new w _
  have cs0 : w1.cell? ⟨w.heap.size, 0, none⟩ = some (.int .i64 s1) := (HK.cell 0).trans rfl
  have cs1 : w1.cell? ⟨w.heap.size, 1, none⟩ = some (.int .u8 s2) := (HK.cell 1).trans rfl
  have hzw := hb1.size
  clear HK
  have hfd : ∀ w : World, (Instr.field 75 (.agg #[.int .i64 n, .bool bq, .string t]) 2).run Tryd.prog w = .ok (.string t) w := fun w => by kernel_rfl
  go_enter Tryd.func27, Tryd.ntmps27
  go_wp2
  rw [← ew1]
  clear ew1 hb1
  go_region
  all_goals go_wp2
  all_goals go_ret
  all_goals exact ⟨Pl.ret_str HF.out, HB1.out.drew⟩
theorem words_any (p : Pl.P) (base g : Nat) (w : World) (hm : Pl.MapAt w base g p (Pl.pls p)) (hln : (Pl.pls p).length ≤ 100000) :
    Calls Tryd.prog 45 #[.pointer (some ⟨g, 0, none⟩)] w fun e w' => e = .returned (.int .i64 (((Pl.pls p).length + 63) / 64 : Nat)) ∧ w = w' := by
  obtain ⟨A, cap, m, H1, H2, H3, h4⟩ := hm.at_
  have cg : w.cell? ⟨g, 0, none⟩ = some (.slice A (Pl.pls p).length cap) := (H1.cell 0).trans rfl
  clear H1 H2 H3 hm
  generalize (Pl.pls p).length = n at *
  go_enter Tryd.func45, Tryd.ntmps45
  go_wp2
  go_ret
  exact ⟨Pl.ret_int (by omega), rfl⟩
end Go.Proofs.YtonfkonjkgalhaaDoor
