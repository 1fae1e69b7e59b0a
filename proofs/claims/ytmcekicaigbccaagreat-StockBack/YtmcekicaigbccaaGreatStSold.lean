/- Contracts: isParty, Sold, Left. -/
import Derived.Test.YtmcekicaigbccaaGreatStMem
import Derived.BigQuiet
import Derived.Deep.RegionHeld3
namespace Go.Proofs.YtmcekicaigbccaaGreat
open Go.RowKit Go.WideMaps
set_option linter.unusedVariables false

def St.party (n : Int) : Bool := Fl.inI n 1 9
theorem isParty_any (n : Int) (w : World) : Calls Tryz.prog 42 #[.int .i64 n] w fun e w' => e = .returned (.bool (St.party n)) ∧ w = w' := by
  have HE : Hid (St.party n = (decide (1 ≤ n) && decide (n ≤ 9))) := show _ = _ by rfl
  generalize St.party n = q at *
  by_cases h1 : 1 ≤ n
  · by_cases h2 : n ≤ 9
    · go_enter Tryz.func42, Tryz.ntmps42
      go_wp2
      go_ret
      exact ⟨Cd.ret_bool (by rw [HE.out, decide_eq_true h1, decide_eq_true h2]; rfl), rfl⟩
    · go_enter Tryz.func42, Tryz.ntmps42
      go_wp2
      go_ret
      exact ⟨Cd.ret_bool (by rw [HE.out, decide_eq_false (p := n ≤ 9) (by omega)]; simp), rfl⟩
  · go_enter Tryz.func42, Tryz.ntmps42
    go_wp2
    go_ret
    exact ⟨Cd.ret_bool (by rw [HE.out, decide_eq_false (p := 1 ≤ n) (by omega)]; simp), rfl⟩
set_option maxHeartbeats 1000000 in
set_option maxRecDepth 20000 in
theorem ssold_any (Bt p t m : Nat) (rs : List Fl.R) (l : List (St.K × Int)) (k : St.K) (w : World) (h : St.At w Bt p t m rs l) (hk : St.OkK k) :
    Calls Tryz.prog 18 #[.pointer (some ⟨p, 0, none⟩), .agg #[.string k.car, .int .i64 k.num, .int .i64 k.day], .int .u8 k.cls] w fun e w' => e = .returned (.int .i64 (St.sold l k)) ∧ Below w.heap.size w w' := by
  have HL := Lib.hid (h.look hk)
  have hml := h.map.lt
  have hpl := h.blk.lt
  have HP := Lib.hid h.blk
  generalize St.sold l k = n at *
  obtain ⟨car, num, day, cls⟩ := k
  unfold St.pv at HL
  simp only at HL ⊢
  clear h hk
  obtain ⟨w1, ew1⟩ : ∃ x, x = w.alloc (.cells #[.string car, .int .i64 num, .int .i64 day] 34) := ⟨_, rfl⟩
  have hb1 : Below w.heap.size w w1 := by rw [ew1]; exact (Below.refl _ _).alloc (Nat.le_refl _) _
  have K1 : Rw.Blk w1 w.heap.size 34 [.string car, .int .i64 num, .int .i64 day] := by rw [ew1]; exact heap_alloc_new w _
  have q0 : ∀ q, (w1.drewN q).cell? ⟨w.heap.size, 0, none⟩ = some (.string car) := fun q => (K1.cell 0).trans rfl
  have q1 : ∀ q, (w1.drewN q).cell? ⟨w.heap.size, 1, none⟩ = some (.int .i64 num) := fun q => (K1.cell 1).trans rfl
  have q2 : ∀ q, (w1.drewN q).cell? ⟨w.heap.size, 2, none⟩ = some (.int .i64 day) := fun q => (K1.cell 2).trans rfl
  have q3 : ∀ q, (w1.drewN q).cell? ⟨p, 1, none⟩ = some (.map (some m)) := fun q => ((HP.out.below' hb1).cell 1).trans rfl
  have q4 : ∀ q, (Instr.lookup 73 (.map (some m)) (.agg #[.string car, .int .i64 num, .int .i64 day, .int .u8 cls]) false).run Tryz.prog (w1.drewN q) = .ok (.int .i64 n) (w1.drewN q) := fun q => HL.out _ (hb1.block m hml)
  clear HL K1
  go_enter Tryz.func18, Tryz.ntmps18
  go_wp2
  rw [← ew1]
  clear ew1
  go_quiet (fail)
  go_wp2
  go_ret
  exact ⟨rfl, Fl.below_drewN hb1 _⟩
theorem slevel_any (Bt p t m : Nat) (rs : List Fl.R) (l : List (St.K × Int)) (k : St.K) (w : World) (h : St.At w Bt p t m rs l) (hk : St.OkK k) :
    Calls Tryz.prog 43 #[.pointer (some ⟨t, 0, none⟩), .agg #[.string k.car, .int .i64 k.num, .int .i64 k.day], .int .u8 k.cls] w fun e w' => e = .returned (.tuple #[.int .i64 (St.lvl rs k), .int .i64 (St.err rs k)]) ∧ Below w.heap.size w w' := by
  obtain ⟨base, hT⟩ := h.tab.tab
  exact level_any base t rs k.car k.num k.day k.cls w hT hk.leg.car hk.leg.n0 hk.leg.n1 (by have := h.few; omega)
set_option maxHeartbeats 1000000 in
set_option maxRecDepth 20000 in
theorem sleft_any (Bt p t m : Nat) (rs : List Fl.R) (l : List (St.K × Int)) (k : St.K) (w : World) (h : St.At w Bt p t m rs l) (hk : St.OkK k) :
    Calls Tryz.prog 22 #[.pointer (some ⟨p, 0, none⟩), .agg #[.string k.car, .int .i64 k.num, .int .i64 k.day], .int .u8 k.cls] w fun e w' => e = .returned (.int .i64 (St.lvl rs k - St.sold l k)) ∧ Below w.heap.size w w' := by
  have HLv := Lib.hid (fun W (hb : Below w.heap.size w W) => slevel_any Bt p t m rs l k W (h.kept hb) hk)
  have HSo := Lib.hid (fun W (hb : Below w.heap.size w W) => ssold_any Bt p t m rs l k W (h.kept hb) hk)
  obtain ⟨hv0, hv1, hv2⟩ := h.bound k
  have HP := Lib.hid h.blk
  have hpl := h.blk.lt
  clear h hk
  generalize St.sold l k = n at *
  generalize St.lvl rs k = lv at *
  generalize St.err rs k = er at *
  obtain ⟨car, num, day, cls⟩ := k
  simp only at HLv HSo ⊢
  obtain ⟨w1, ew1⟩ : ∃ x, x = w.alloc (.cells #[.string car, .int .i64 num, .int .i64 day] 34) := ⟨_, rfl⟩
  have hb1 : Below w.heap.size w w1 := by rw [ew1]; exact (Below.refl _ _).alloc (Nat.le_refl _) _
  have K1 : Rw.Blk w1 w.heap.size 34 [.string car, .int .i64 num, .int .i64 day] := by rw [ew1]; exact heap_alloc_new w _
  have HS : Hid (∀ w', Below w1.heap.size w1 w' → w'.cell? ⟨w.heap.size, 0, none⟩ = some (.string car) ∧ w'.cell? ⟨w.heap.size, 1, none⟩ = some (.int .i64 num) ∧ w'.cell? ⟨w.heap.size, 2, none⟩ = some (.int .i64 day) ∧ w'.cell? ⟨p, 0, none⟩ = some (.pointer (some ⟨t, 0, none⟩))) := fun w' hb => by
    have k1 := K1.below' hb
    have k2 := (HP.out.below' hb1).below' hb
    exact ⟨k1.cell 0, k1.cell 1, k1.cell 2, k2.cell 0⟩
  have HB1 := Lib.hid hb1
  clear K1 hb1
  go_enter Tryz.func22, Tryz.ntmps22
  go_wp2
  rw [← ew1]
  clear ew1
  go_region_held3 (fun w' => w'.cell? ⟨w.heap.size, 0, none⟩ = some (.string car) ∧ w'.cell? ⟨w.heap.size, 1, none⟩ = some (.int .i64 num) ∧ w'.cell? ⟨w.heap.size, 2, none⟩ = some (.int .i64 day) ∧ w'.cell? ⟨p, 0, none⟩ = some (.pointer (some ⟨t, 0, none⟩))) (first | exact HS.out _ (Below.refl _ _) | exact HS.out _ (Below.refl _ _).drew | exact HS.out _ ((Below.refl _ _).drew.trans hb2)) (first
    | (go_at_call 43; refine (HLv.out _ HB1.out.drew).mono ?_; rintro e w2 ⟨rfl, hb2⟩))
  obtain ⟨k0, k1, k2, k3⟩ := HS.out _ ((Below.refl _ _).drew.trans hb2)
  have HB2 := Lib.hid (HB1.out.drew.trans (hb2.mono HB1.out.size))
  go_wp2_with (first
    | (go_at_call 18; refine (HSo.out _ HB2.out).mono ?_; rintro e w3 ⟨rfl, hb3⟩))
  go_ret
  exact ⟨by go_num, HB2.out.trans (hb3.mono HB2.out.size)⟩
end Go.Proofs.YtmcekicaigbccaaGreat
