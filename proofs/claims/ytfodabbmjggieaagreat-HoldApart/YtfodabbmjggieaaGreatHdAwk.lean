/- The statements' awake. -/
import Derived.Test.YtfodabbmjggieaaGreatHdLg
namespace Go.Proofs.YtfodabbmjggieaaGreat
open Go.RowKit Go.WideMaps
set_option linter.unusedVariables false

namespace Hd
def sBA : ByteArray := ⟨#[66, 65]⟩
def sLON : ByteArray := ⟨#[76, 79, 78]⟩
def sPAR : ByteArray := ⟨#[80, 65, 82]⟩
def sAB : ByteArray := ⟨#[65, 66]⟩
def sX : ByteArray := ⟨#[88]⟩
def F0 : Fl.F := ⟨sBA, 1, sLON, sPAR, 127, 0, 0, [(89, 3)], 0⟩
def P0 : Pl.P := ⟨1, 2, sAB, [], []⟩
def x0 : L := ⟨sBA, 1, 5⟩
def k0 : K := ⟨sBA, 1, 5, 1, 65⟩
def hX1 : H := ⟨sX, 1⟩
def hX2 : H := ⟨sX, 2⟩
theorem right0 : Fl.right F0 = true := by decide +kernel
theorem chk0 : chk [F0] [P0] k0 = 0 := by decide +kernel
theorem cab0 : cab [F0] 1 sBA 1 = some 0 := by decide +kernel
theorem on0 : ((Pl.seatsOf P0).filterMap (onF [(k0, hX1)] x0)).length = 1 := by decide +kernel
theorem pOk0 : (decide (P0.lt.size ≤ 30) && decide (P0.ex.length ≤ 60) && Pl.right P0) = true := by decide +kernel
theorem who0 : who [(k0, hX1)] k0 = some hX1 := by decide +kernel
theorem okL0 : OkL x0 := ⟨by decide, by decide, by decide, by decide, by decide⟩
theorem ok0 : OkK k0 := ⟨okL0, by decide, by decide, by decide, by decide⟩
theorem one_of {rs : List Fl.R} (h : (rs.map Fl.R.f).Perm [F0]) : rs.map Fl.R.f = [F0] := List.perm_singleton.1 h
theorem rising_one {ls : List L} {x : L} (hr : Rising ls) (hm : ∀ y, y ∈ ls ↔ y = x) : ls.length = 1 := by
  rcases ls with _ | ⟨a, _ | ⟨b, l⟩⟩
  · exact absurd ((hm x).2 rfl) (by simp)
  · rfl
  · have h1 := (hm a).1 (by simp)
    have h2 := (hm b).1 (by simp)
    have h3 := hr 0 1 (by simp) (by omega)
    simp [h1, h2, llt_irrefl] at h3
section
variable {Bt p t m cap : Nat} {A : Option Addr} {rs : List Fl.R} {gs : List (Nat × Pl.P)} {w : World}
theorem take1 (hr : rs.map Fl.R.f = [F0]) (hg : gs.map Prod.snd = [P0]) (h : At w Bt p t m A cap rs gs []) :
    Calls Tryz.prog 12 #[.pointer (some ⟨p, 0, none⟩), .agg #[.string ⟨#[66, 65]⟩, .int .i64 1, .int .i64 5], .agg #[.int .i64 1, .int .u8 65], .agg #[.string ⟨#[88]⟩, .int .i64 1]] w fun e w' => e = .returned (.int .i64 0) ∧ At w' Bt p t m A cap rs gs [(k0, hX1)] ∧ Rw.Fr (· = m) w w' := by
  refine (take_any Bt p t m A cap rs gs [] k0 hX1 w h ok0).mono fun e w' ⟨he, l', h1, h2, h3⟩ => ?_
  rw [hr, hg] at he h3
  have hc : takeC [F0] [P0] [] k0 hX1 = 0 := takeC_none chk0 rfl
  rw [hc] at he h3
  rcases h3 with ⟨_, h4⟩ | ⟨h4, _⟩
  · subst h4
    exact ⟨he, h1, h2⟩
  · exact absurd rfl h4
theorem take2 (hr : rs.map Fl.R.f = [F0]) (hg : gs.map Prod.snd = [P0]) (h : At w Bt p t m A cap rs gs [(k0, hX1)]) :
    Calls Tryz.prog 12 #[.pointer (some ⟨p, 0, none⟩), .agg #[.string ⟨#[66, 65]⟩, .int .i64 1, .int .i64 5], .agg #[.int .i64 1, .int .u8 65], .agg #[.string ⟨#[88]⟩, .int .i64 1]] w fun e w' => e = .returned (.int .i64 8) ∧ Below w.heap.size w w' := by
  refine (take_any Bt p t m A cap rs gs [(k0, hX1)] k0 hX1 w h ok0).mono fun e w' ⟨he, l', h1, h2, h3⟩ => ?_
  rw [hr, hg] at he h3
  have hc : takeC [F0] [P0] [(k0, hX1)] k0 hX1 = 8 := by rw [takeC_some chk0 who0, if_pos rfl]
  rw [hc] at he h3
  rcases h3 with ⟨h4, _⟩ | ⟨_, _, hb⟩
  · exact absurd h4 (by decide)
  · exact ⟨he, hb⟩
theorem take3 (hr : rs.map Fl.R.f = [F0]) (hg : gs.map Prod.snd = [P0]) (h : At w Bt p t m A cap rs gs [(k0, hX1)]) :
    Calls Tryz.prog 12 #[.pointer (some ⟨p, 0, none⟩), .agg #[.string ⟨#[66, 65]⟩, .int .i64 1, .int .i64 5], .agg #[.int .i64 1, .int .u8 65], .agg #[.string ⟨#[88]⟩, .int .i64 2]] w fun e w' => e = .returned (.int .i64 14) ∧ Below w.heap.size w w' := by
  refine (take_any Bt p t m A cap rs gs [(k0, hX1)] k0 hX2 w h ok0).mono fun e w' ⟨he, l', h1, h2, h3⟩ => ?_
  rw [hr, hg] at he h3
  have hc : takeC [F0] [P0] [(k0, hX1)] k0 hX2 = 14 := by rw [takeC_some chk0 who0, if_neg (by decide)]
  rw [hc] at he h3
  rcases h3 with ⟨h4, _⟩ | ⟨_, _, hb⟩
  · exact absurd h4 (by decide)
  · exact ⟨he, hb⟩
theorem who1 (h : At w Bt p t m A cap rs gs [(k0, hX1)]) :
    Calls Tryz.prog 15 #[.pointer (some ⟨p, 0, none⟩), .agg #[.string ⟨#[66, 65]⟩, .int .i64 1, .int .i64 5], .agg #[.int .i64 1, .int .u8 65]] w fun e w' => e = .returned (.tuple #[.agg #[.string ⟨#[88]⟩, .int .i64 1], .bool true]) ∧ Below w.heap.size w w' := by
  refine (who_any Bt p t m A cap rs gs [(k0, hX1)] k0 w h ok0).mono fun e w' ⟨he, hb⟩ => ⟨?_, hb⟩
  rw [he]
  unfold whoH
  rw [who0]
  rfl
theorem on1 (hr : rs.map Fl.R.f = [F0]) (hg : gs.map Prod.snd = [P0]) (h : At w Bt p t m A cap rs gs [(k0, hX1)]) :
    Calls Tryz.prog 19 #[.pointer (some ⟨p, 0, none⟩), .agg #[.string ⟨#[66, 65]⟩, .int .i64 1, .int .i64 5]] w fun e w' => (∃ A c, e = .returned (.slice A 1 c)) ∧ Below w.heap.size w w' := by
  refine (on_any Bt p t m A cap rs gs [(k0, hX1)] x0 w h okL0).mono fun e w' ⟨B, c, he, _, hb⟩ => ⟨?_, hb⟩
  have hl : gs.length = 1 := by have := congrArg List.length hg; simpa using this
  have hi : 0 < gs.length := by omega
  have h0 : gs[0].2 = P0 := by
    have : (gs.map Prod.snd)[0]? = some P0 := by rw [hg]; rfl
    simpa [hi] using this
  have hn : (onL (rs.map Fl.R.f) gs [(k0, hX1)] x0).length = 1 := by
    rw [hr, onL_some (i := 0) (by rw [hl]; exact cab0) hi, h0]
    exact on0
  rw [hn] at he
  exact ⟨B, c, he⟩
theorem legs1 (h : At w Bt p t m A cap rs gs [(k0, hX1)]) :
    Calls Tryz.prog 22 #[.pointer (some ⟨p, 0, none⟩)] w fun e w' => (∃ A c, e = .returned (.slice A 1 c)) ∧ Below w.heap.size w w' := by
  refine (legs_any Bt p t m A cap rs gs [(k0, hX1)] w h (by simp)).mono fun e w' ⟨v, ls, he, hm, hR, hO, hb⟩ => ⟨?_, hb⟩
  have hl := rising_one (x := x0) hR (fun y => (hm y).trans ⟨fun ⟨e, he, h⟩ => by simp at he; subst he; exact h.symm, fun h => ⟨(k0, hX1), by simp, h.symm⟩⟩)
  obtain ⟨A, c, rfl⟩ := hO.slice
  rw [hl] at he
  exact ⟨A, c, he⟩
theorem has1 (hr : rs.map Fl.R.f = [F0]) (hg : gs.map Prod.snd = [P0]) {l : List (K × H)} (h : At w Bt p t m A cap rs gs l) :
    Calls Tryz.prog 16 #[.pointer (some ⟨p, 0, none⟩), .agg #[.string ⟨#[66, 65]⟩, .int .i64 1, .int .i64 5], .agg #[.int .i64 1, .int .u8 65]] w fun e w' => e = .returned (.bool true) ∧ Below w.heap.size w w' := by
  refine (hhas_any Bt p t m A cap rs gs l k0 w h ok0).mono fun e w' ⟨he, hb⟩ => ⟨?_, hb⟩
  rw [hr, hg, chk0] at he
  exact he
end
def c0 (w : World) : List Value := [.string ⟨#[66, 65]⟩, .int .i64 1, .string ⟨#[76, 79, 78]⟩, .string ⟨#[80, 65, 82]⟩, .int .u8 127, .int .i64 0, .int .i64 0, .slice (some ⟨w.heap.size, 0, none⟩) 1 1, .int .i64 0]
def R0 (w : World) : Fl.R := ⟨F0, some ⟨w.heap.size, 0, none⟩, 1⟩
def Q0 : Pl.R := ⟨P0, none, 0, none, 0⟩
theorem enc0 (w : World) : Fl.enc (R0 w) = c0 w := rfl
def W1 (w : World) : World := ((w.alloc (.cells #[.int .u8 89, .int .i64 3] 67)).alloc (.cells #[.string ⟨#[66, 65]⟩, .int .i64 1, .string ⟨#[76, 79, 78]⟩, .string ⟨#[80, 65, 82]⟩, .int .u8 127, .int .i64 0, .int .i64 0, .slice (some ⟨w.heap.size, 0, none⟩) 1 1, .int .i64 0] 70)).alloc (.cells #[.string ⟨#[66, 65]⟩, .int .i64 1, .string ⟨#[76, 79, 78]⟩, .string ⟨#[80, 65, 82]⟩, .int .u8 127, .int .i64 0, .int .i64 0, .slice (some ⟨w.heap.size, 0, none⟩) 1 1, .int .i64 0] 70)
def W0 (w : World) : World := (W1 w).alloc (.cells #[.int .i64 1, .int .i64 2, .string ⟨#[65, 66]⟩, .slice none 0 0, .slice none 0 0] 74)
theorem W1_facts (w : World) : (W1 w).heap.size = w.heap.size + 3 ∧ Rw.Blk (W1 w) w.heap.size 67 [.int .u8 89, .int .i64 3] ∧ Rw.Blk (W1 w) (w.heap.size + 1) 70 (c0 w) ∧ Rw.Blk (W1 w) (w.heap.size + 1 + 1) 70 (c0 w) ∧ Below w.heap.size w (W1 w) := by
  have z1 : (w.alloc (.cells #[.int .u8 89, .int .i64 3] 67)).heap.size = w.heap.size + 1 := by simp
  have k1 : Rw.Blk (w.alloc (.cells #[.int .u8 89, .int .i64 3] 67)) w.heap.size 67 [.int .u8 89, .int .i64 3] := heap_alloc_new w _
  have k2 := heap_alloc_new (w.alloc (.cells #[.int .u8 89, .int .i64 3] 67)) (.cells (c0 w).toArray 70)
  have z2 : ((w.alloc (.cells #[.int .u8 89, .int .i64 3] 67)).alloc (.cells (c0 w).toArray 70)).heap.size = w.heap.size + 1 + 1 := by simp
  rw [z1] at k2
  have k3 := heap_alloc_new ((w.alloc (.cells #[.int .u8 89, .int .i64 3] 67)).alloc (.cells (c0 w).toArray 70)) (.cells (c0 w).toArray 70)
  rw [z2] at k3
  have b1 : Below (w.alloc (.cells #[.int .u8 89, .int .i64 3] 67)).heap.size (w.alloc (.cells #[.int .u8 89, .int .i64 3] 67)) ((w.alloc (.cells #[.int .u8 89, .int .i64 3] 67)).alloc (.cells (c0 w).toArray 70)) := (Below.refl _ _).alloc (Nat.le_refl _) _
  have b2 : Below ((w.alloc (.cells #[.int .u8 89, .int .i64 3] 67)).alloc (.cells (c0 w).toArray 70)).heap.size ((w.alloc (.cells #[.int .u8 89, .int .i64 3] 67)).alloc (.cells (c0 w).toArray 70)) (W1 w) := (Below.refl _ _).alloc (Nat.le_refl _) _
  have b0 : Below w.heap.size w (w.alloc (.cells #[.int .u8 89, .int .i64 3] 67)) := (Below.refl _ _).alloc (Nat.le_refl _) _
  have k2' : Rw.Blk ((w.alloc (.cells #[.int .u8 89, .int .i64 3] 67)).alloc (.cells (c0 w).toArray 70)) (w.heap.size + 1) 70 (c0 w) := k2
  refine ⟨by simp [W1], (k1.below' b1).below' b2, k2'.below' b2, k3, (b0.trans (b1.mono (by omega))).trans (b2.mono (by omega))⟩
theorem W0_facts (w : World) : (W0 w).heap.size = w.heap.size + 4 ∧ Rw.Blk (W0 w) w.heap.size 67 [.int .u8 89, .int .i64 3] ∧ Rw.Blk (W0 w) (w.heap.size + 1) 70 (c0 w) ∧ Rw.Blk (W0 w) (w.heap.size + 1 + 1) 70 (c0 w) ∧ Rw.Blk (W0 w) (w.heap.size + 1 + 1 + 1) 74 (Pl.enc Q0) ∧ Below w.heap.size w (W0 w) := by
  obtain ⟨hz, k1, k2, k3, hb⟩ := W1_facts w
  have b4 : Below (W1 w).heap.size (W1 w) (W0 w) := (Below.refl _ _).alloc (Nat.le_refl _) _
  have k4 : Rw.Blk (W0 w) (W1 w).heap.size 74 (Pl.enc Q0) := heap_alloc_new (W1 w) _
  rw [hz] at k4
  exact ⟨by simp [W0, hz], k1.below' b4, k2.below' b4, k3.below' b4, k4, hb.trans (b4.mono (by omega))⟩
theorem f0w : F0.car.size ≤ 9223372036854775807 ∧ F0.frm.size ≤ 9223372036854775807 ∧ F0.to.size ≤ 9223372036854775807 ∧ -9223372036854775808 ≤ F0.num ∧ F0.num ≤ 9223372036854775807 ∧ 0 ≤ F0.days ∧ F0.days ≤ 255 ∧ -9223372036854775808 ≤ F0.dep ∧ F0.dep ≤ 9223372036854775807 ∧ -9223372036854775808 ≤ F0.arr ∧ F0.arr ≤ 9223372036854775807 ∧ F0.cls.length ≤ 9223372036854775807 ∧ F0.cls.length ≤ 1 := by decide
theorem fls0 (w : World) : Fl.Fls (W0 w) (W0 w).heap.size (some ⟨w.heap.size + 1 + 1, 0, none⟩) [R0 w] := by
  obtain ⟨hz, k1, k2, k3, k4, hb⟩ := W0_facts w
  refine ⟨fun _ => ⟨_, 0, rfl, by omega, fun j hj i v hv => ?_⟩, fun r hr => ?_, fun r hr => ?_⟩
  · have : j = 0 := by simpa using hj
    subst this
    exact k3.range i v hv
  · have : r = R0 w := by simpa using hr
    subst this
    refine fun _ => ⟨_, 0, rfl, by omega, fun j hj => ?_⟩
    have : j = 0 := by
      have : (R0 w).f.cls.length = 1 := rfl
      omega
    subst this
    exact ⟨k1.cell 0, k1.cell 1⟩
  · have : r = R0 w := by simpa using hr
    subst this
    obtain ⟨a1, a2, a3, a4, a5, a6, a7, a8, a9, a10, a11, a12, a13⟩ := f0w
    exact ⟨a1, a2, a3, a4, a5, a6, a7, a8, a9, a10, a11, a12, a13, (fun h => by cases h), (fun a h _ => by injection h with h; subst h; rfl)⟩
theorem wfQ : Pl.Wf Q0 := by
  constructor <;> first | decide | (intro s hs; exact absurd hs (by simp [Q0, P0]))
theorem plns0 (w : World) : Plns (W0 w) (W0 w).heap.size (some ⟨w.heap.size + 1 + 1 + 1, 0, none⟩) [Q0] := by
  obtain ⟨hz, k1, k2, k3, k4, hb⟩ := W0_facts w
  refine ⟨fun _ => ⟨_, 0, rfl, by omega, fun j hj i v hv => ?_⟩, fun r hr => ?_, fun r hr => ?_, fun r hr => ?_⟩
  · have : j = 0 := by simpa using hj
    subst this
    exact k4.range i v hv
  · have : r = Q0 := by simpa using hr
    subst this
    exact fun h => absurd h (by decide)
  · have : r = Q0 := by simpa using hr
    subst this
    exact fun h => absurd h (by decide)
  · have : r = Q0 := by simpa using hr
    subst this
    exact wfQ
theorem begun0 (w : World) : Calls Tryz.prog 8 #[.agg #[.slice (some ⟨w.heap.size + 1 + 1, 0, none⟩) 1 1, .slice (some ⟨w.heap.size + 1 + 1 + 1, 0, none⟩) 1 1]] (W0 w) fun e w' => ∃ Bt p t m A cap rs gs, e = .returned (.tuple #[.pointer (some ⟨p, 0, none⟩), .bool true]) ∧ At w' Bt p t m A cap rs gs [] ∧ rs.map Fl.R.f = [F0] ∧ gs.map Prod.snd = [P0] ∧ (W0 w).heap.size ≤ Bt ∧ Below (W0 w).heap.size (W0 w) w' := by
  refine (begun_ok _ _ [R0 w] [Q0] 1 1 (W0 w).heap.size (W0 w) (fls0 w) (plns0 w) (Nat.le_refl _) ⟨by simp, ?_⟩ ⟨by simp, fun r hr => ?_⟩).mono fun e w' ⟨Bt, p, t, m, A, cap, rs, gs, he, hA, hp, hg, hB, hb⟩ => ⟨Bt, p, t, m, A, cap, rs, gs, he, hA, one_of hp, hg, hB, hb⟩
  · unfold Fl.newCode
    rw [if_pos (by simp; exact right0), if_pos (by simp [Fl.ks])]
  · have : r = Q0 := by simpa using hr
    subst this
    exact pOk0
end Hd
set_option maxHeartbeats 2000000 in
set_option maxRecDepth 20000 in
theorem awake_any (w : World) : Calls Tryz.prog 7 #[] w fun e w' => e = .returned (.bool true) ∧ Below w.heap.size w w' := by
  go_enter Tryz.func7, Tryz.ntmps7
  obtain ⟨hz, _, kk, _, _, hb0⟩ := Hd.W0_facts w
  have HW0 := Lib.hid hb0
  have HZ0 := Lib.hid hz
  have HKK := Lib.hid kk
  have HNW := Lib.hid (Hd.begun0 w)
  have hw0 : w.heap.size < (Hd.W0 w).heap.size := by omega
  have hw1 : w.heap.size + 1 < (Hd.W0 w).heap.size := by omega
  clear hz kk hb0
  unfold Hd.W0 Hd.W1 at HNW HW0 HKK HZ0 hw0 hw1
  go_wp2_with (first
    | (go_at_call 8; refine HNW.out.mono ?_; rintro e w2 ⟨Bt, p, t, m, A, cap, rs, gs, rfl, hA, hr, hg, hBt, hb2⟩; have HA := Lib.hid hA; have HR := Lib.hid hr; have HG := Lib.hid hg; have HK2 := Lib.hid (HKK.out.below' hb2); have HB2 := Lib.hid (HW0.out.trans (hb2.mono HW0.out.size)); have hml := hA.map.lt; have hlom : w.heap.size ≤ m := (Nat.le_trans HW0.out.size (Nat.le_trans hBt hA.lom)); have hcell0 : w2.cell? ⟨w.heap.size + 1, 0, none⟩ = some (.string ⟨#[66, 65]⟩) := HK2.out.cell 0; have hcell1 : w2.cell? ⟨w.heap.size + 1, 1, none⟩ = some (.int .i64 1) := HK2.out.cell 1; clear hA hr hg hb2 hBt)
    | (refine Rw.wpList_alloc rfl 35 rfl (Hd.encL ⟨⟨#[]⟩, 0, 0⟩) Hd.zLeg ?_; intro w3 K3 b3 z3; clear z3)
    | (refine Rw.wpList_store_whole rfl 35 _ _ rfl w2.heap.size rfl (Hd.encL ⟨⟨#[66, 65]⟩, 1, 5⟩) rfl _ _ K3 Hd.iLeg rfl (Hd.encL_one _) ?_; intro w4 K4 f4; have HB24 : Hid (Below w2.heap.size w2 w4) := b3.trans (f4.below b3.size (fun k hk => Nat.le_of_eq hk.symm)); have HK4 := Lib.hid K4; have HA4 := Lib.hid (HA.out.kept HB24.out); have HB4 := Lib.hid (HB2.out.trans (HB24.out.mono HB2.out.size)); clear K4 f4 hcell0 hcell1)
    | (refine Rw.wpList_alloc rfl 37 rfl [.int .i64 0, .int .u8 0] Pl.zSeat ?_; intro w5 K5 b5 z5; clear z5)
    | (refine Rw.wpList_store_whole rfl 37 _ _ rfl w4.heap.size rfl [.int .i64 1, .int .u8 65] rfl _ _ K5 Pl.iSeat rfl (by intro v hv; simp at hv; rcases hv with rfl | rfl <;> rfl) ?_; intro w6 K6 f6; have HB46 : Hid (Below w4.heap.size w4 w6) := b5.trans (f6.below b5.size (fun k hk => Nat.le_of_eq hk.symm)); have HK46 := Lib.hid (HK4.out.below' HB46.out); have HK6 := Lib.hid K6; have HA6 := Lib.hid (HA4.out.kept HB46.out); have HB6 := Lib.hid (HB4.out.trans (HB46.out.mono HB4.out.size)); clear K6 f6)
    | (have hgd := HB12; refine Rw.wpList_alloc rfl 39 rfl [.string ⟨#[]⟩, .int .i64 0] Hd.zH ?_; intro w13 K13 b13 z13; clear z13)
    | (have hgd := HB12; refine Rw.wpList_store_whole rfl 39 _ _ rfl w12.heap.size rfl [.string ⟨#[88]⟩, .int .i64 1] rfl _ _ K13 Hd.iH rfl Hd.one2 ?_; intro w14 K14 f14; have HB1214 : Hid (Below w12.heap.size w12 w14) := b13.trans (f14.below b13.size (fun k hk => Nat.le_of_eq hk.symm)); have HB914 := Lib.hid (HB912.out.trans (HB1214.out.mono HB912.out.size)); have HB14 := Lib.hid (HB12.out.trans (HB1214.out.mono HB12.out.size)); obtain ⟨l0, l1, l2, s0, s1, g0, g1⟩ := HS.out w14 HB914.out; have HA14 := Lib.hid (HA9.out.kept HB914.out); have m0 : w14.cell? ⟨w12.heap.size, 0, none⟩ = some (.string ⟨#[88]⟩) := K14.cell 0; have m1 : w14.cell? ⟨w12.heap.size, 1, none⟩ = some (.int .i64 1) := K14.cell 1; clear K14 f14)
    | (refine Rw.wpList_alloc rfl 39 rfl [.string ⟨#[]⟩, .int .i64 0] Hd.zH ?_; intro w7 K7 b7 z7; clear z7)
    | (refine Rw.wpList_store_whole rfl 39 _ _ rfl w6.heap.size rfl [.string ⟨#[88]⟩, .int .i64 1] rfl _ _ K7 Hd.iH rfl Hd.one2 ?_; intro w8 K8 f8; have HB68 : Hid (Below w6.heap.size w6 w8) := b7.trans (f8.below b7.size (fun k hk => Nat.le_of_eq hk.symm)); have HK48 := Lib.hid (HK46.out.below' HB68.out); have HK68 := Lib.hid (HK6.out.below' HB68.out); have HK8 := Lib.hid K8; have HA8 := Lib.hid (HA6.out.kept HB68.out); have HB8 := Lib.hid (HB6.out.trans (HB68.out.mono HB6.out.size)); have hs24 := HB24.out.size; have hs46 := HB46.out.size; have l0 : w8.cell? ⟨w2.heap.size, 0, none⟩ = some (.string ⟨#[66, 65]⟩) := HK48.out.cell 0; have l1 : w8.cell? ⟨w2.heap.size, 1, none⟩ = some (.int .i64 1) := HK48.out.cell 1; have l2 : w8.cell? ⟨w2.heap.size, 2, none⟩ = some (.int .i64 5) := HK48.out.cell 2; have s0 : w8.cell? ⟨w4.heap.size, 0, none⟩ = some (.int .i64 1) := HK68.out.cell 0; have s1 : w8.cell? ⟨w4.heap.size, 1, none⟩ = some (.int .u8 65) := HK68.out.cell 1; have g0 : w8.cell? ⟨w6.heap.size, 0, none⟩ = some (.string ⟨#[88]⟩) := HK8.out.cell 0; have g1 : w8.cell? ⟨w6.heap.size, 1, none⟩ = some (.int .i64 1) := HK8.out.cell 1; clear K8 f8)
    | (go_at_call 12; have hgd := HB10; refine (Hd.take3 HR.out HG.out HA10.out).mono ?_; rintro e w11 ⟨rfl, hb11⟩; have HB911 := Lib.hid (HB910.out.trans (hb11.mono HB910.out.size)); have HB11 := Lib.hid (HB10.out.trans (hb11.mono HB10.out.size)); have HA11 := Lib.hid (HA10.out.kept hb11); clear l0 l1 l2 s0 s1 g0 g1; obtain ⟨l0, l1, l2, s0, s1, g0, g1⟩ := HS.out w11 HB911.out; clear hb11)
    | (go_at_call 12; have hgd := HB9; refine (Hd.take2 HR.out HG.out HA9.out).mono ?_; rintro e w10 ⟨rfl, hb10⟩; have HB910 := Lib.hid hb10; have HB10 := Lib.hid (HB9.out.trans (hb10.mono HB9.out.size)); have HA10 := Lib.hid (HA9.out.kept hb10); clear l0 l1 l2 s0 s1 g0 g1; obtain ⟨l0, l1, l2, s0, s1, g0, g1⟩ := HS.out w10 hb10; clear hb10)
    | (go_at_call 12; refine (Hd.take1 HR.out HG.out HA8.out).mono ?_; rintro e w9 ⟨rfl, hA9, hf9⟩; have HA9 := Lib.hid hA9; have HB9 := Lib.hid (HB8.out.trans (hf9.below (B := w.heap.size) HB8.out.size (fun k hk => by have : k = m := hk; omega))); have HS : Hid (∀ W, Below w9.heap.size w9 W → W.cell? ⟨w2.heap.size, 0, none⟩ = some (.string ⟨#[66, 65]⟩) ∧ W.cell? ⟨w2.heap.size, 1, none⟩ = some (.int .i64 1) ∧ W.cell? ⟨w2.heap.size, 2, none⟩ = some (.int .i64 5) ∧ W.cell? ⟨w4.heap.size, 0, none⟩ = some (.int .i64 1) ∧ W.cell? ⟨w4.heap.size, 1, none⟩ = some (.int .u8 65) ∧ W.cell? ⟨w6.heap.size, 0, none⟩ = some (.string ⟨#[88]⟩) ∧ W.cell? ⟨w6.heap.size, 1, none⟩ = some (.int .i64 1)) := (fun W hb => by
        have q1 := (HK48.out.kept (hf9.block _ HK48.out.lt (show ¬ (w2.heap.size = m) by omega))).below' hb
        have q2 := (HK68.out.kept (hf9.block _ HK68.out.lt (show ¬ (w4.heap.size = m) by omega))).below' hb
        have q3 := (HK8.out.kept (hf9.block _ HK8.out.lt (show ¬ (w6.heap.size = m) by omega))).below' hb
        exact ⟨q1.cell 0, q1.cell 1, q1.cell 2, q2.cell 0, q2.cell 1, q3.cell 0, q3.cell 1⟩); clear l0 l1 l2 s0 s1 g0 g1; obtain ⟨l0, l1, l2, s0, s1, g0, g1⟩ := HS.out w9 (Below.refl _ _); clear hA9 hf9)
    | (go_at_call 15; refine (Hd.who1 HA11.out).mono ?_; rintro e w12 ⟨rfl, hb12⟩; have HB912 := Lib.hid (HB911.out.trans (hb12.mono HB911.out.size)); have HB12 := Lib.hid (HB11.out.trans (hb12.mono HB11.out.size)); clear l0 l1 l2 s0 s1 g0 g1 hb12)
    | (go_at_call 19; refine (Hd.on1 HR.out HG.out HA14.out).mono ?_; rintro e w15 ⟨⟨A15, c15, rfl⟩, hb15⟩; have HB915 := Lib.hid (HB914.out.trans (hb15.mono HB914.out.size)); have HB15 := Lib.hid (HB14.out.trans (hb15.mono HB14.out.size)); have HA15 := Lib.hid (HA14.out.kept hb15); clear l0 l1 l2 s0 s1 g0 g1 m0 m1 hb15)
    | (go_at_call 22; refine (Hd.legs1 HA15.out).mono ?_; rintro e w16 ⟨⟨A16, c16, rfl⟩, hb16⟩; have HB916 := Lib.hid (HB915.out.trans (hb16.mono HB915.out.size)); have HB16 := Lib.hid (HB15.out.trans (hb16.mono HB15.out.size)); have HA16 := Lib.hid (HA15.out.kept hb16); obtain ⟨l0, l1, l2, s0, s1, g0, g1⟩ := HS.out w16 HB916.out; clear hb16)
    | (go_at_call 16; refine (Hd.has1 HR.out HG.out HA16.out).mono ?_; rintro e w17 ⟨rfl, hb17⟩; have HB17 := Lib.hid (HB16.out.trans (hb17.mono HB16.out.size)); clear hb17))
  go_ret
  exact ⟨rfl, HB17.out⟩
end Go.Proofs.YtfodabbmjggieaaGreat
