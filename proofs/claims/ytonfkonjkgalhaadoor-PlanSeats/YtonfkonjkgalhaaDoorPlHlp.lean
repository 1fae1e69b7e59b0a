/- Contracts of the statements' place, Same, words. -/
import Derived.Test.YtonfkonjkgalhaaDoorPlMade
import Derived.Test.YtonfkonjkgalhaaDoorPlBk
namespace Go.Proofs.YtonfkonjkgalhaaDoor
open Go.RowKit Go.WideMaps
set_option linter.unusedVariables false

namespace Pl
def PlaceR (n : Nat) (w : World) (e : Ending) (w' : World) : Prop := ∃ j : Nat, j < n ∧ e = .returned (.int .i64 j) ∧ w = w'
def QuietB (b : Bool) (w : World) (e : Ending) (w' : World) : Prop := e = .returned (.bool b) ∧ Below w.heap.size w w'
end Pl
theorem place_any (x : Int) (n : Nat) (w : World) (h0 : -9223372036854775808 ≤ x) (h1 : x ≤ 9223372036854775807) (hn : 0 < n) (hn2 : n ≤ 1000000) :
    Calls Tryd.prog 29 #[.int .i64 x, .int .i64 n] w (Pl.PlaceR n w) := by
  have t1 := Int.tmod_lt_of_pos x (show (0 : Int) < n by omega)
  have t2 := Int.lt_tmod_of_pos x (show (0 : Int) < n by omega)
  obtain ⟨y, hy⟩ : ∃ y, y = x.tmod n := ⟨_, rfl⟩
  have HY := Lib.hid hy
  by_cases hneg : y < 0
  · have hd : decide (x.tmod n < 0) = true := by rw [← hy]; simpa using hneg
    have hw : IntKind.i64.wrap (x.tmod n) = x.tmod n := IntWalk.i64_in _ (by omega)
    obtain ⟨j, hj⟩ : ∃ j : Nat, y + n = j := ⟨(y + n).toNat, by omega⟩
    have HJ : Hid (x.tmod n + n = j) := show _ = _ by rw [← hy]; exact hj
    have hj2 : j < n := by omega
    go_enter Tryd.func29, Tryd.ntmps29
    go_wp2
    go_ret
    exact ⟨j, hj2, Pl.ret_int HJ.out, rfl⟩
  · have hd : decide (x.tmod n < 0) = false := by rw [← hy]; simpa using hneg
    have hw : IntKind.i64.wrap (x.tmod n) = x.tmod n := IntWalk.i64_in _ (by omega)
    obtain ⟨j, hj⟩ : ∃ j : Nat, y = j := ⟨y.toNat, by omega⟩
    have HJ : Hid (x.tmod n = j) := show _ = _ by rw [← hy]; exact hj
    have hj2 : j < n := by omega
    go_enter Tryd.func29, Tryd.ntmps29
    go_wp2
    go_ret
    exact ⟨j, hj2, Pl.ret_int HJ.out, rfl⟩
namespace Pl
theorem list_ne {α : Type} {l m : List α} {k : Nat} (h1 : k < l.length) (h2 : k < m.length) (h : l[k] ≠ m[k]) : l ≠ m := fun e => by
  subst e
  exact h rfl
end Pl
set_option maxHeartbeats 1000000 in
theorem same_any (A A' : Option Addr) (l m : List Pl.S) (cap cap' B B' : Nat) (w : World) (h : Pl.Sts w B A l) (h' : Pl.Sts w B' A' m) (hl : l.length ≤ 1000000) (hm : m.length ≤ 1000000) :
    Calls Tryd.prog 19 #[.slice A l.length cap, .slice A' m.length cap'] w (Pl.QuietB (decide (l = m)) w) := by
  by_cases hn : l.length = m.length
  · have HY : Hid ((∀ j, j < l.length → Pl.gR l j = Pl.gR m j ∧ Pl.gC l j = Pl.gC m j) → decide (l = m) = true) := fun hh => decide_eq_true (List.ext_getElem hn (fun i h1 h2 => by rw [Pl.gS l i h1, Pl.gS m i h2, (hh i h1).1, (hh i h1).2]))
    have HNo : Hid (∀ k, k < l.length → (Pl.gR l k = Pl.gR m k → Pl.gC l k ≠ Pl.gC m k) → decide (l = m) = false) := fun k hk hh => decide_eq_false (Pl.list_ne hk (by omega) (fun e => by
      rw [Pl.gS l k hk, Pl.gS m k (by omega)] at e
      injection e with e1 e2
      exact hh e1 e2))
    have H1 := Lib.hid h
    have H2 := Lib.hid h'
    have HN := Lib.hid hn
    generalize decide (l = m) = res at *
    have hne : ((l.length : Int) != (m.length : Int)) = false := by rw [bne_eq_false_iff_eq]; omega
    have hne2 : ((l.length : Int) == (m.length : Int)) = true := by rw [beq_iff_eq]; omega
    clear h h' hn
    go_enter Tryd.func19, Tryd.ntmps19
    go_wp2
    go_loopw [5] (fun i wr => ∃ k n : Nat, k ≤ l.length ∧ i = .int .i64 k ∧ Hid (∀ j, j < k → Pl.gR l j = Pl.gR m j ∧ Pl.gC l j = Pl.gC m j) ∧ wr = w.drewN n) (fun i _ => l.length - (intOf i).toNat)
    case atStart => exact ⟨0, 0, by omega, rfl, fun j hj => absurd hj (by omega), rfl⟩
    case round =>
      obtain ⟨k, n, hk, rfl, HK, rfl⟩ := hrel
      by_cases hlt : k < l.length
      · have hlm : k < m.length := by have := HN.out; omega
        obtain ⟨b, off, rfl, hb, hc⟩ := H1.out (by omega)
        obtain ⟨b', off', rfl, hb', hc'⟩ := H2.out (by omega)
        have c0 : ∀ q, (w.drewN q).cell? ⟨b, off + k * 2, none⟩ = some (.int .i64 (Pl.gR l k)) := fun q => (hc k hlt).1
        have c1 : ∀ q, (w.drewN q).cell? ⟨b, off + k * 2 + 1, none⟩ = some (.int .u8 (Pl.gC l k)) := fun q => (hc k hlt).2
        have d0 : ∀ q, (w.drewN q).cell? ⟨b', off' + k * 2, none⟩ = some (.int .i64 (Pl.gR m k)) := fun q => (hc' k hlm).1
        have d1 : ∀ q, (w.drewN q).cell? ⟨b', off' + k * 2 + 1, none⟩ = some (.int .u8 (Pl.gC m k)) := fun q => (hc' k hlm).2
        have HNk := Lib.hid (HNo.out k hlt)
        clear hc hc'
        by_cases e1 : Pl.gR l k = Pl.gR m k
        · by_cases e2 : Pl.gC l k = Pl.gC m k
          · have HN2 : Hid (∀ j, j < k + 1 → Pl.gR l j = Pl.gR m j ∧ Pl.gC l j = Pl.gC m j) := fun j hj => by
              rcases Nat.lt_or_ge j k with h | h
              · exact HK.out j h
              · rw [show j = k by omega]; exact ⟨e1, e2⟩
            rw [e1] at c0
            rw [e2] at c1
            clear e1 e2
            go_wp2
            go_quiet (fail)
            go_wp2
            go_roundw
            case rel => exact ⟨k + 1, _, by omega, by go_num, HN2, rfl⟩
            case measure => simp [intOf]; omega
          · have HN2 := Lib.hid (HNk.out (fun _ => e2))
            rw [e1] at c0
            have hd : (Pl.gC l k == Pl.gC m k) = false := by simp; exact e2
            clear e1 e2
            go_wp2
            go_quiet (fail)
            go_wp2
            go_ret
            exact ⟨Pl.ret_bool HN2.out.symm, Pl.below_drewN (Pl.below_drewN (Below.refl _ _) _) _⟩
        · have HN2 := Lib.hid (HNk.out (fun e => absurd e e1))
          have hd : (Pl.gR l k == Pl.gR m k) = false := by simp; exact e1
          clear e1
          go_wp2
          go_quiet (fail)
          go_wp2
          go_ret
          exact ⟨Pl.ret_bool HN2.out.symm, Pl.below_drewN (Pl.below_drewN (Below.refl _ _) _) _⟩
      · go_wp2
        go_ret
        exact ⟨Pl.ret_bool (HY.out (fun j hj => HK.out j (by omega))).symm, Pl.below_drewN (Below.refl _ _) _⟩
  · have HF : Hid (decide (l = m) = false) := show _ = _ by rw [decide_eq_false_iff_not]; rintro rfl; exact hn rfl
    have hne : ((l.length : Int) != (m.length : Int)) = true := by rw [bne_iff_ne]; omega
    generalize decide (l = m) = res at *
    clear h h'
    go_enter Tryd.func19, Tryd.ntmps19
    go_wp2
    go_ret
    exact ⟨Pl.ret_bool HF.out.symm, Below.refl _ _⟩
set_option maxHeartbeats 1000000 in
theorem lwords_any (A A' : Option Addr) (l m : List Nat) (cap cap' B B' : Nat) (w : World) (h : Pl.Nums w B A l) (h' : Pl.Nums w B' A' m) (hl : l.length ≤ 9223372036854775807) (hm : m.length ≤ 9223372036854775807) :
    Calls Tryd.prog 32 #[.slice A l.length cap, .slice A' m.length cap'] w (Pl.QuietB (decide (l = m)) w) := by
  by_cases hn : l.length = m.length
  · have HY : Hid ((∀ j, j < l.length → Pl.gN l j = Pl.gN m j) → decide (l = m) = true) := fun hh => decide_eq_true (List.ext_getElem hn (fun i h1 h2 => by
      have := hh i h1
      simpa [Pl.gN, List.getD_eq_getElem?_getD, h1, h2] using this))
    have HNo : Hid (∀ k, k < l.length → Pl.gN l k ≠ Pl.gN m k → decide (l = m) = false) := fun k hk hh => decide_eq_false (fun e => hh (by rw [e]))
    have H1 := Lib.hid h
    have H2 := Lib.hid h'
    have HN := Lib.hid hn
    generalize decide (l = m) = res at *
    have hne : ((l.length : Int) != (m.length : Int)) = false := by rw [bne_eq_false_iff_eq]; omega
    have hne2 : ((l.length : Int) == (m.length : Int)) = true := by rw [beq_iff_eq]; omega
    clear h h' hn
    go_enter Tryd.func32, Tryd.ntmps32
    go_wp2
    go_loopw [5] (fun i wr => ∃ k n : Nat, k ≤ l.length ∧ i = .int .i64 k ∧ Hid (∀ j, j < k → Pl.gN l j = Pl.gN m j) ∧ wr = w.drewN n) (fun i _ => l.length - (intOf i).toNat)
    case atStart => exact ⟨0, 0, by omega, rfl, fun j hj => absurd hj (by omega), rfl⟩
    case round =>
      obtain ⟨k, n, hk, rfl, HK, rfl⟩ := hrel
      by_cases hlt : k < l.length
      · have hlm : k < m.length := by have := HN.out; omega
        obtain ⟨b, off, rfl, hb, hc⟩ := H1.out (by omega)
        obtain ⟨b', off', rfl, hb', hc'⟩ := H2.out (by omega)
        have c0 : ∀ q, (w.drewN q).cell? ⟨b, off + k, none⟩ = some (.int .u64 (Pl.gN l k)) := fun q => hc k hlt
        have d0 : ∀ q, (w.drewN q).cell? ⟨b', off' + k, none⟩ = some (.int .u64 (Pl.gN m k)) := fun q => hc' k hlm
        have HNk := Lib.hid (HNo.out k hlt)
        clear hc hc'
        by_cases e1 : Pl.gN l k = Pl.gN m k
        · have HN2 : Hid (∀ j, j < k + 1 → Pl.gN l j = Pl.gN m j) := fun j hj => by
            rcases Nat.lt_or_ge j k with h | h
            · exact HK.out j h
            · rw [show j = k by omega]; exact e1
          rw [e1] at c0
          clear e1
          go_wp2
          go_quiet (fail)
          go_wp2
          go_roundw
          case rel => exact ⟨k + 1, _, by omega, by go_num, HN2, rfl⟩
          case measure => simp [intOf]; omega
        · have HN2 := Lib.hid (HNk.out e1)
          have hd : ((Pl.gN l k : Int) == (Pl.gN m k : Int)) = false := by rw [beq_eq_false_iff_ne]; omega
          have hd2 : ((Pl.gN l k : Int) != (Pl.gN m k : Int)) = true := by rw [bne_iff_ne]; omega
          clear e1
          go_wp2
          go_quiet (fail)
          go_wp2
          go_ret
          exact ⟨Pl.ret_bool HN2.out.symm, Pl.below_drewN (Pl.below_drewN (Below.refl _ _) _) _⟩
      · go_wp2
        go_ret
        exact ⟨Pl.ret_bool (HY.out (fun j hj => HK.out j (by omega))).symm, Pl.below_drewN (Below.refl _ _) _⟩
  · have HF : Hid (decide (l = m) = false) := show _ = _ by rw [decide_eq_false_iff_not]; rintro rfl; exact hn rfl
    have hne : ((l.length : Int) != (m.length : Int)) = true := by rw [bne_iff_ne]; omega
    generalize decide (l = m) = res at *
    clear h h'
    go_enter Tryd.func32, Tryd.ntmps32
    go_wp2
    go_ret
    exact ⟨Pl.ret_bool HF.out.symm, Below.refl _ _⟩
end Go.Proofs.YtonfkonjkgalhaaDoor
