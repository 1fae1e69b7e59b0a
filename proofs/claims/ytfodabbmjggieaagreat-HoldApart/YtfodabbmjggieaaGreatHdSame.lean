/- The statements' Same, of lists that are alike. -/
import Derived.Test.YtfodabbmjggieaaGreatHdFct
namespace Go.Proofs.YtfodabbmjggieaaGreat
open Go.RowKit Go.WideMaps
set_option linter.unusedVariables false

set_option maxHeartbeats 1000000 in
set_option maxRecDepth 20000 in
theorem same_eq (A1 A2 : Option Addr) (c1 c2 b1 b2 : Nat) (ds : List Hd.D) (w : World) (h1 : Hd.OwnD w b1 (.slice A1 ds.length c1) ds) (h2 : Hd.OwnD w b2 (.slice A2 ds.length c2) ds) (hl : ds.length ≤ 100000) :
    Calls Tryz.prog 18 #[.slice A1 ds.length c1, .slice A2 ds.length c2] w fun e w' => e = .returned (.bool true) ∧ Below w.heap.size w w' := by
  have H1 := Lib.hid h1
  have H2 := Lib.hid h2
  clear h1 h2
  go_enter Tryz.func18, Tryz.ntmps18
  go_wp2
  go_loopw [5] (fun i wr => ∃ k : Nat, k ≤ ds.length ∧ i = .int .i64 k ∧ Hid (Below w.heap.size w wr)) (fun i _ => ds.length - (intOf i).toNat)
  case atStart => exact ⟨0, by omega, rfl, Below.refl _ _⟩
  case round =>
    obtain ⟨wx, ewx⟩ : ∃ x, x = wr := ⟨_, rfl⟩
    subst ewx
    obtain ⟨k, hk, rfl, HB⟩ := hrel
    by_cases hlt : k < ds.length
    · obtain ⟨x, rfl, hx, _, p0, p1, p2, p3⟩ := H1.out.at k hlt
      obtain ⟨y, rfl, hy, _, q0, q1, q2, q3⟩ := H2.out.at k hlt
      have hlt2 := hlt
      obtain ⟨d, hd⟩ : ∃ d, d = ds[k] := ⟨_, rfl⟩
      rw [← hd] at p0 p1 p2 p3 q0 q1 q2 q3
      clear hd
      have u0 : ∀ q, (wx.drewN q).cell? ⟨x, k * 4, none⟩ = some (.int .i64 d.row) := fun q => (HB.out.cell (p := ⟨x, _, none⟩) hx).trans p0
      have u1 : ∀ q, (wx.drewN q).cell? ⟨x, k * 4 + 1, none⟩ = some (.int .u8 d.ltr) := fun q => (HB.out.cell (p := ⟨x, _, none⟩) hx).trans p1
      have u2 : ∀ q, (wx.drewN q).cell? ⟨x, k * 4 + 2, none⟩ = some (.string d.loc) := fun q => (HB.out.cell (p := ⟨x, _, none⟩) hx).trans p2
      have u3 : ∀ q, (wx.drewN q).cell? ⟨x, k * 4 + 3, none⟩ = some (.int .i64 d.pax) := fun q => (HB.out.cell (p := ⟨x, _, none⟩) hx).trans p3
      have v0 : ∀ q, (wx.drewN q).cell? ⟨y, k * 4, none⟩ = some (.int .i64 d.row) := fun q => (HB.out.cell (p := ⟨y, _, none⟩) hy).trans q0
      have v1 : ∀ q, (wx.drewN q).cell? ⟨y, k * 4 + 1, none⟩ = some (.int .u8 d.ltr) := fun q => (HB.out.cell (p := ⟨y, _, none⟩) hy).trans q1
      have v2 : ∀ q, (wx.drewN q).cell? ⟨y, k * 4 + 2, none⟩ = some (.string d.loc) := fun q => (HB.out.cell (p := ⟨y, _, none⟩) hy).trans q2
      have v3 : ∀ q, (wx.drewN q).cell? ⟨y, k * 4 + 3, none⟩ = some (.int .i64 d.pax) := fun q => (HB.out.cell (p := ⟨y, _, none⟩) hy).trans q3
      have hsx := HB.out.size
      have HN : Hid (∀ q, Below w.heap.size w (wx.drewN q)) := fun q => Fl.below_drewN HB.out q
      clear p0 p1 p2 p3 q0 q1 q2 q3
      go_wp2
      go_quiet (fail)
      have HN2 := Lib.hid (HN.out nq)
      go_wp2
      go_roundw
      case rel => exact ⟨k + 1, by omega, by go_num, HN2.out⟩
      case measure => simp [intOf]; omega
    · go_wp2
      go_ret
      exact ⟨rfl, HB.out⟩
end Go.Proofs.YtfodabbmjggieaaGreat
