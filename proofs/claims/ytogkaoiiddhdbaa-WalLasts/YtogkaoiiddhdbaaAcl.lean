/- An act read off a slice, and copied to a variable of its own. -/
import Derived.Test.YtogkaoiiddhdbaaGrw
namespace Go.Proofs.Ytogkaoiiddhdbaa
open Go.RowKit
set_option linter.unusedVariables false

namespace Wl
open Dk (ActD)
theorem rangeAt_act {w : World} {G : Nat → Prop} {b o : Nat} {x : ActD} {Ad Ak : Option Addr} {cd ck : Nat} (h : Dk.ActAt w G b o x Ad Ak cd ck) : w.rangeAt b o (ac x Ad Ak cd ck) := fun j v hv => by
  unfold ac at hv
  match j, hv with
  | 0, hv => simp at hv; subst hv; exact h.c0
  | 1, hv => simp at hv; subst hv; exact h.c1
  | 2, hv => simp at hv; subst hv; exact h.c2
  | 3, hv => simp at hv; subst hv; exact h.c3
  | 4, hv => simp at hv; subst hv; exact h.c4
  | 5, hv => simp at hv; subst hv; exact h.c5
  | 6, hv => simp at hv; subst hv; exact h.c6
  | j + 7, hv => simp at hv
theorem Bls.mono {w : World} {G G' : Nat → Prop} {A : Option Addr} {m : List Bool} (h : Dk.Bls w G A m) (hG : ∀ k, G k → G' k) : Dk.Bls w G' A m := fun hl => by
  obtain ⟨b, off, e, hB, hc⟩ := h hl
  exact ⟨b, off, e, hG b hB, hc⟩
theorem uA : Try.prog.underlying 43 = some (((Try.prog.underlying 43).getD .bool)) := by kernel_rfl
theorem rA : (((Try.prog.underlying 43).getD .bool)).isRow = true := by kernel_rfl
theorem iA : (Try.prog.info? 43).map (·.size) = some 7 := by kernel_rfl
theorem zA (w : World) : (zeroValue 43).run Try.prog w = .ok (.agg (ac ⟨0, 0, 0, 0, [], [], 0⟩ none none 0 0).toArray) w := by kernel_rfl
theorem one_ac (x : ActD) (Ad Ak : Option Addr) (cd ck : Nat) : ∀ v ∈ ac x Ad Ak cd ck, v.oneCell' = true := by
  intro v hv
  simp only [ac, List.mem_cons, List.not_mem_nil, or_false] at hv
  rcases hv with rfl | rfl | rfl | rfl | rfl | rfl | rfl <;> rfl
section
variable {w : World} {ops : Array Oper} {rest : List Oper} {o : Oper} {a : Act} {Q : Exit → Act → World → Prop}
theorem wpList_loadA (hg : o.guard = none) (y : Operand) (hop : o.op = Op.load 43 y) (g off : Nat) (hx : a.eval y = .pointer (some ⟨g, off, none⟩)) (x : ActD) (Ad Ak : Option Addr) (cd ck : Nat)
    (hr : w.rangeAt g off (ac x Ad Ak cd ck)) (hK : wpList Try.prog ops Q rest (a.put o.dst (av x Ad Ak cd ck)) w) : wpList Try.prog ops Q (o :: rest) a w :=
  wpList_load_mid hg 43 y hop g off hx (ac x Ad Ak cd ck) _ hr uA rA iA hK
theorem wpList_storeA (hg : o.guard = none) (y z : Operand) (hop : o.op = Op.store 43 y z) (g : Nat) (hx : a.eval y = .pointer (some ⟨g, 0, none⟩)) (x : ActD) (Ad Ak : Option Addr) (cd ck : Nat) (hy : a.eval z = av x Ad Ak cd ck)
    (x0 : ActD) (Bd Bk : Option Addr) (ed ek : Nat) (hh : AB w g x0 Bd Bk ed ek)
    (hK : ∀ w', AB w' g x Ad Ak cd ck → Dk.Fr (· = g) w w' → wpList Try.prog ops Q rest (a.put o.dst undef) w') : wpList Try.prog ops Q (o :: rest) a w :=
  Dk.wpList_store_whole hg 43 y z hop g hx (ac x Ad Ak cd ck) hy _ _ hh iA rfl (one_ac x Ad Ak cd ck) hK
theorem AB.range {g : Nat} {x : ActD} {Ad Ak : Option Addr} {cd ck : Nat} (h : AB w g x Ad Ak cd ck) : w.rangeAt g 0 (ac x Ad Ak cd ck) := fun j v hv => by
  rw [Nat.zero_add, h.cell j]; exact hv
end
end Wl
end Go.Proofs.Ytogkaoiiddhdbaa
