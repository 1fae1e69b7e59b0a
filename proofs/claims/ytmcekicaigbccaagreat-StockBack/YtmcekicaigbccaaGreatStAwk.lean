/- The statements' own test first. -/
import Derived.Test.YtmcekicaigbccaaGreatStAv
namespace Go.Proofs.YtmcekicaigbccaaGreat
open Go.RowKit Go.WideMaps
set_option linter.unusedVariables false

namespace St
def sBA : ByteArray := ⟨#[66, 65]⟩
def sLON : ByteArray := ⟨#[76, 79, 78]⟩
def sPAR : ByteArray := ⟨#[80, 65, 82]⟩
def F0 : Fl.F := ⟨sBA, 1, sLON, sPAR, 127, 0, 0, [(89, 3)], 0⟩
def k0 : K := ⟨sBA, 1, 5, 89⟩
theorem right0 : Fl.right F0 = true := by decide +kernel
theorem lvl0 {rs : List Fl.R} (h : rs.map Fl.R.f = [F0]) : lvl rs k0 = 3 ∧ err rs k0 = 0 := by
  unfold lvl err
  rw [h]
  decide +kernel
theorem ok0 : OkK k0 := ⟨⟨by decide, by decide, by decide, by decide, by decide⟩, by decide, by decide⟩
theorem one_of {rs : List Fl.R} (h : (rs.map Fl.R.f).Perm [F0]) : ∃ r, rs = [r] ∧ r.f = F0 := by
  have h1 : rs.map Fl.R.f = [F0] := List.perm_singleton.1 h
  have hl := congrArg List.length h1
  simp at hl
  obtain ⟨r, rfl⟩ := List.length_eq_one_iff.1 hl
  exact ⟨r, rfl, by simpa using h1⟩
theorem dpsB {r : Fl.R} (h : r.f = F0) : Fl.dps [r] 5 (Fl.cB sLON sPAR) = [r] := by
  unfold Fl.dps
  rw [List.filter_cons_of_pos]
  · rfl
  · unfold Fl.cB
    rw [h]
    decide +kernel
theorem dps_le {r : Fl.R} {day : Int} {c : Fl.R → Bool} : (Fl.dps [r] day c).length ≤ 1 := by
  unfold Fl.dps
  exact Nat.le_trans (List.length_filter_le _ _) (by simp)
theorem far0 {r : Fl.R} (h : r.f = F0) : ∀ q ∈ Fl.dps [r] 5 (Fl.cF sLON), ∀ s ∈ Fl.dps [r] 5 (Fl.cS sPAR), Fl.seq q.f.to s.f.frm = false := fun q hq s hs => by
  have e1 : q = r := by simpa using (List.mem_filter.1 hq).1
  have e2 : s = r := by simpa using (List.mem_filter.1 hs).1
  rw [e1, e2, h]
  decide +kernel
/-- What is sold of one class alone. -/
theorem only_one {w : World} {Bt p t m : Nat} {rs : List Fl.R} {l : List (K × Int)} {n : Int} (h : At w Bt p t m rs l) (hp : Puts [] l k0 n) (hn : n ≠ 0) : l.length ≤ 1 ∧ ∀ x, (∃ e ∈ l, e.1.leg = x) ↔ x = k0.leg := by
  have hk : ∀ e ∈ l, e.1 = k0 := fun e he => by
    have h1 := sold_mem h.nod (k := e.1) (n := e.2) he
    have h2 := hp e.1
    have h3 := (h.val e he).1
    by_cases hc : e.1 = k0
    · exact hc
    · rw [if_neg hc, h1, sold_non (by simp)] at h2
      omega
  have h0 : sold l k0 = n := by rw [hp k0, if_pos rfl]
  have hm : (k0, sold l k0) ∈ l := by
    rcases sold_cases l k0 with g | ⟨_, g⟩
    · exact g
    · rw [g] at h0; exact absurd h0.symm hn
  refine ⟨?_, fun x => ⟨?_, ?_⟩⟩
  · rcases Nat.lt_or_ge 1 l.length with hl | hl
    · exfalso
      have a0 : 0 < (l.map Prod.fst).length := by simp; omega
      have a1 : 1 < (l.map Prod.fst).length := by simp; omega
      have := List.pairwise_iff_getElem.1 h.nod 0 1 a0 a1 (by omega)
      simp only [List.getElem_map] at this
      exact this ((hk _ (List.getElem_mem _)).trans (hk _ (List.getElem_mem _)).symm)
    · exact hl
  · rintro ⟨e, he, rfl⟩; rw [hk e he]
  · rintro rfl; exact ⟨_, hm, rfl⟩
theorem rising_one {ls : List L} {x : L} (hr : Rising ls) (hm : ∀ y, y ∈ ls ↔ y = x) : ls.length = 1 := by
  rcases ls with _ | ⟨a, _ | ⟨b, r⟩⟩
  · have := (hm x).2 rfl
    simp at this
  · rfl
  · have e1 := (hm a).1 (by simp)
    have e2 := (hm b).1 (by simp)
    have := hr 0 1 (by simp) (by omega)
    simp only [List.getElem_cons_zero, List.getElem_cons_succ] at this
    rw [e1, e2, llt_irrefl] at this
    cases this
end St
namespace St
def c0 (w : World) : List Value := [.string ⟨#[66, 65]⟩, .int .i64 1, .string ⟨#[76, 79, 78]⟩, .string ⟨#[80, 65, 82]⟩, .int .u8 127, .int .i64 0, .int .i64 0, .slice (some ⟨w.heap.size, 0, none⟩) 1 1, .int .i64 0]
def R0 (w : World) : Fl.R := ⟨F0, some ⟨w.heap.size, 0, none⟩, 1⟩
theorem enc0 (w : World) : Fl.enc (R0 w) = c0 w := rfl
def W0 (w : World) : World := ((w.alloc (.cells #[.int .u8 89, .int .i64 3] 59)).alloc (.cells #[.string ⟨#[66, 65]⟩, .int .i64 1, .string ⟨#[76, 79, 78]⟩, .string ⟨#[80, 65, 82]⟩, .int .u8 127, .int .i64 0, .int .i64 0, .slice (some ⟨w.heap.size, 0, none⟩) 1 1, .int .i64 0] 62)).alloc (.cells #[.string ⟨#[66, 65]⟩, .int .i64 1, .string ⟨#[76, 79, 78]⟩, .string ⟨#[80, 65, 82]⟩, .int .u8 127, .int .i64 0, .int .i64 0, .slice (some ⟨w.heap.size, 0, none⟩) 1 1, .int .i64 0] 62)
theorem W0_facts (w : World) : (W0 w).heap.size = w.heap.size + 3 ∧ Rw.Blk (W0 w) w.heap.size 59 [.int .u8 89, .int .i64 3] ∧ Rw.Blk (W0 w) (w.heap.size + 1) 62 (c0 w) ∧ Rw.Blk (W0 w) (w.heap.size + 1 + 1) 62 (c0 w) ∧ Below w.heap.size w (W0 w) := by
  have z1 : (w.alloc (.cells #[.int .u8 89, .int .i64 3] 59)).heap.size = w.heap.size + 1 := by simp
  have k1 : Rw.Blk (w.alloc (.cells #[.int .u8 89, .int .i64 3] 59)) w.heap.size 59 [.int .u8 89, .int .i64 3] := heap_alloc_new w _
  have k2 := heap_alloc_new (w.alloc (.cells #[.int .u8 89, .int .i64 3] 59)) (.cells (c0 w).toArray 62)
  have z2 : ((w.alloc (.cells #[.int .u8 89, .int .i64 3] 59)).alloc (.cells (c0 w).toArray 62)).heap.size = w.heap.size + 1 + 1 := by simp
  rw [z1] at k2
  have k3 := heap_alloc_new ((w.alloc (.cells #[.int .u8 89, .int .i64 3] 59)).alloc (.cells (c0 w).toArray 62)) (.cells (c0 w).toArray 62)
  rw [z2] at k3
  have b1 : Below (w.alloc (.cells #[.int .u8 89, .int .i64 3] 59)).heap.size (w.alloc (.cells #[.int .u8 89, .int .i64 3] 59)) ((w.alloc (.cells #[.int .u8 89, .int .i64 3] 59)).alloc (.cells (c0 w).toArray 62)) := (Below.refl _ _).alloc (Nat.le_refl _) _
  have b2 : Below ((w.alloc (.cells #[.int .u8 89, .int .i64 3] 59)).alloc (.cells (c0 w).toArray 62)).heap.size ((w.alloc (.cells #[.int .u8 89, .int .i64 3] 59)).alloc (.cells (c0 w).toArray 62)) (W0 w) := (Below.refl _ _).alloc (Nat.le_refl _) _
  have b0 : Below w.heap.size w (w.alloc (.cells #[.int .u8 89, .int .i64 3] 59)) := (Below.refl _ _).alloc (Nat.le_refl _) _
  have k2' : Rw.Blk ((w.alloc (.cells #[.int .u8 89, .int .i64 3] 59)).alloc (.cells (c0 w).toArray 62)) (w.heap.size + 1) 62 (c0 w) := k2
  refine ⟨by simp [W0], (k1.below' b1).below' b2, k2'.below' b2, k3, (b0.trans (b1.mono (by omega))).trans (b2.mono (by omega))⟩
theorem f0w : F0.car.size ≤ 9223372036854775807 ∧ F0.frm.size ≤ 9223372036854775807 ∧ F0.to.size ≤ 9223372036854775807 ∧ -9223372036854775808 ≤ F0.num ∧ F0.num ≤ 9223372036854775807 ∧ 0 ≤ F0.days ∧ F0.days ≤ 255 ∧ -9223372036854775808 ≤ F0.dep ∧ F0.dep ≤ 9223372036854775807 ∧ -9223372036854775808 ≤ F0.arr ∧ F0.arr ≤ 9223372036854775807 ∧ F0.cls.length ≤ 9223372036854775807 ∧ F0.cls.length ≤ 1 := by decide
theorem new0 (w : World) : Calls Tryz.prog 24 #[.slice (some ⟨w.heap.size + 1 + 1, 0, none⟩) 1 1] (W0 w) fun e w' => ∃ t r, e = .returned (.tuple #[.pointer (some ⟨t, 0, none⟩), .int .i64 0]) ∧ r.f = F0 ∧ Fl.Tab w' (W0 w).heap.size t [r] ∧ Below (W0 w).heap.size (W0 w) w' := by
  obtain ⟨hz, k1, k2, k3, hb⟩ := W0_facts w
  have hF : Fl.Fls (W0 w) (W0 w).heap.size (some ⟨w.heap.size + 1 + 1, 0, none⟩) [R0 w] := by
    refine ⟨fun _ => ⟨_, 0, rfl, by omega, fun j hj i v hv => ?_⟩, fun r hr => ?_, fun r hr => ?_⟩
    · have : j = 0 := by simpa using hj
      subst this
      exact k3.range i v hv
    · have : r = R0 w := by simpa using hr
      subst this
      refine fun _ => ⟨_, 0, rfl, by omega, fun j hj => ?_⟩
      have : j = 0 := by
        have : (R0 w).f.cls.length = 1 := rfl
        omega
      subst this
      exact ⟨k1.cell 0, k1.cell 1⟩
    · have : r = R0 w := by simpa using hr
      subst this
      obtain ⟨a1, a2, a3, a4, a5, a6, a7, a8, a9, a10, a11, a12, a13⟩ := f0w
      exact ⟨a1, a2, a3, a4, a5, a6, a7, a8, a9, a10, a11, a12, a13, (fun h => by cases h), (fun a h _ => by injection h with h; subst h; rfl)⟩
  refine (new_right (some ⟨w.heap.size + 1 + 1, 0, none⟩) [R0 w] 1 (W0 w).heap.size (W0 w) hF (Nat.le_refl _) (by simp) (fun r hr => ?_) (fun r hr => ?_)).mono fun e w' h => ?_
  · have : r = R0 w := by simpa using hr
    subst this; exact right0
  · have : r = R0 w := by simpa using hr
    subst this; show F0.cls.length ≤ 3000; decide
  · rcases h with ⟨_, t, rs', he, hp, hT, hB⟩ | ⟨hn, _⟩
    · obtain ⟨r, rfl, hr⟩ := one_of (rs := rs') hp
      exact ⟨t, r, he, hr, hT, hB⟩
    · exact absurd (by simp [Fl.ks]) hn
/-- So many are sold of the one class, and of no other. -/
def Sd (w : World) (Bt p t m : Nat) (r : Fl.R) (n : Int) : Prop := ∃ l, At w Bt p t m [r] l ∧ Puts [] l k0 n
theorem Sd.kept {w w' : World} {Bt p t m : Nat} {r : Fl.R} {n : Int} (h : Sd w Bt p t m r n) (hb : Below w.heap.size w w') : Sd w' Bt p t m r n := by
  obtain ⟨l, h1, h2⟩ := h
  exact ⟨l, h1.kept hb, h2⟩
theorem Sd.sold {w : World} {Bt p t m : Nat} {r : Fl.R} {n : Int} (h : Sd w Bt p t m r n) : ∃ l, At w Bt p t m [r] l ∧ sold l k0 = n ∧ Puts [] l k0 n := by
  obtain ⟨l, h1, h2⟩ := h
  exact ⟨l, h1, by rw [h2 k0, if_pos rfl], h2⟩
theorem lvl1 {r : Fl.R} (h : r.f = F0) : lvl [r] k0 = 3 ∧ err [r] k0 = 0 := lvl0 (by simp [h])
theorem sell0 (Bt p t m : Nat) (r : Fl.R) (hr : r.f = F0) (w : World) (h : Sd w Bt p t m r 0) :
    Calls Tryz.prog 19 #[.pointer (some ⟨p, 0, none⟩), .agg #[.string ⟨#[66, 65]⟩, .int .i64 1, .int .i64 5], .int .u8 89, .int .i64 2] w fun e w' => e = .returned (.int .i64 0) ∧ Sd w' Bt p t m r 2 ∧ Rw.Fr (· = m) w w' := by
  obtain ⟨l, hA, hs, hp⟩ := h.sold
  obtain ⟨h1, h2⟩ := lvl1 hr
  have hE : sellE [r] l k0 2 = 0 := by unfold sellE; rw [h1, h2, hs]; decide
  have hAf : sellA [r] l k0 2 = 2 := by unfold sellA; rw [hE, hs]; decide
  refine (sell_any Bt p t m [r] l k0 2 w hA ok0 (by decide) (by decide)).mono fun e w' ⟨he, l', h3, h4, h5⟩ => ⟨by rw [he, hE], ⟨l', h3, fun k' => ?_⟩, h5⟩
  rw [h4 k', hAf]
  by_cases hk : k' = k0
  · rw [if_pos hk, if_pos hk]
  · rw [if_neg hk, if_neg hk, hp k', if_neg hk]
theorem sell2 (Bt p t m : Nat) (r : Fl.R) (hr : r.f = F0) (w : World) (h : Sd w Bt p t m r 2) :
    Calls Tryz.prog 19 #[.pointer (some ⟨p, 0, none⟩), .agg #[.string ⟨#[66, 65]⟩, .int .i64 1, .int .i64 5], .int .u8 89, .int .i64 2] w fun e w' => e = .returned (.int .i64 13) ∧ Sd w' Bt p t m r 2 ∧ Rw.Fr (· = m) w w' := by
  obtain ⟨l, hA, hs, hp⟩ := h.sold
  obtain ⟨h1, h2⟩ := lvl1 hr
  have hE : sellE [r] l k0 2 = 13 := by unfold sellE; rw [h1, h2, hs]; decide
  have hAf : sellA [r] l k0 2 = 2 := by unfold sellA; rw [hE, hs]; decide
  refine (sell_any Bt p t m [r] l k0 2 w hA ok0 (by decide) (by decide)).mono fun e w' ⟨he, l', h3, h4, h5⟩ => ⟨by rw [he, hE], ⟨l', h3, fun k' => ?_⟩, h5⟩
  rw [h4 k', hAf]
  by_cases hk : k' = k0
  · rw [if_pos hk, if_pos hk]
  · rw [if_neg hk, if_neg hk, hp k', if_neg hk]
theorem left2 (Bt p t m : Nat) (r : Fl.R) (hr : r.f = F0) (w : World) (h : Sd w Bt p t m r 2) :
    Calls Tryz.prog 22 #[.pointer (some ⟨p, 0, none⟩), .agg #[.string ⟨#[66, 65]⟩, .int .i64 1, .int .i64 5], .int .u8 89] w fun e w' => e = .returned (.int .i64 1) ∧ Below w.heap.size w w' := by
  obtain ⟨l, hA, hs, hp⟩ := h.sold
  obtain ⟨h1, h2⟩ := lvl1 hr
  refine (sleft_any Bt p t m [r] l k0 w hA ok0).mono fun e w' ⟨he, hb⟩ => ⟨?_, hb⟩
  rw [he, h1, hs]; rfl
theorem sold2 (Bt p t m : Nat) (r : Fl.R) (w : World) (h : Sd w Bt p t m r 2) :
    Calls Tryz.prog 18 #[.pointer (some ⟨p, 0, none⟩), .agg #[.string ⟨#[66, 65]⟩, .int .i64 1, .int .i64 5], .int .u8 89] w fun e w' => e = .returned (.int .i64 2) ∧ Below w.heap.size w w' := by
  obtain ⟨l, hA, hs, hp⟩ := h.sold
  refine (ssold_any Bt p t m [r] l k0 w hA ok0).mono fun e w' ⟨he, hb⟩ => ⟨?_, hb⟩
  rw [he, hs]
theorem avail2 (Bt p t m : Nat) (r : Fl.R) (hr : r.f = F0) (w : World) (h : Sd w Bt p t m r 2) :
    Calls Tryz.prog 15 #[.pointer (some ⟨p, 0, none⟩), .int .i64 5, .string ⟨#[76, 79, 78]⟩, .string ⟨#[80, 65, 82]⟩] w fun e w' => (∃ A c, e = .returned (.slice A 1 c)) ∧ Below w.heap.size w w' := by
  obtain ⟨l, hA, hs, hp⟩ := h.sold
  exact avail_one Bt p t m [r] l r 5 sLON sPAR w hA (by decide) (by decide) (fun q hq => by
    have : q = r := by simpa using hq
    rw [this, hr]; exact ⟨by decide, by decide⟩) (by decide) (dpsB hr) dps_le dps_le (far0 hr)
theorem legs2 (Bt p t m : Nat) (r : Fl.R) (w : World) (h : Sd w Bt p t m r 2) :
    Calls Tryz.prog 12 #[.pointer (some ⟨p, 0, none⟩)] w fun e w' => (∃ A c, e = .returned (.slice A 1 c)) ∧ Below w.heap.size w w' := by
  obtain ⟨l, hA, hs, hp⟩ := h.sold
  obtain ⟨h1, h2⟩ := only_one hA hp (by decide)
  refine (legs_any Bt p t m [r] l w hA (by omega)).mono fun e w' ⟨v, ls, he, hm, hR, hO, hb⟩ => ⟨?_, hb⟩
  have hl := rising_one hR (fun y => (hm y).trans (h2 y))
  obtain ⟨A, c, rfl⟩ := hO.slice
  rw [hl] at he
  exact ⟨A, c, he⟩
end St
set_option maxHeartbeats 2000000 in
set_option maxRecDepth 20000 in
theorem awake_any (w : World) : Calls Tryz.prog 8 #[] w fun e w' => e = .returned (.bool true) ∧ Below w.heap.size w w' := by
  go_enter Tryz.func8, Tryz.ntmps8
  obtain ⟨hz, _, kk, _, hb0⟩ := St.W0_facts w
  have HW0 := Lib.hid hb0
  have HZ0 := Lib.hid hz
  have HKK := Lib.hid kk
  have HNW := Lib.hid (St.new0 w)
  have hw0 : w.heap.size < (St.W0 w).heap.size := by omega
  have hw1 : w.heap.size + 1 < (St.W0 w).heap.size := by omega
  clear hz kk hb0
  unfold St.W0 at HNW HW0 HKK HZ0 hw0 hw1
  go_wp2_with (first
    | (go_at_call 24; refine HNW.out.mono ?_; rintro e w2 ⟨t, r, rfl, hr, hT, hb2⟩; have HR := Lib.hid hr; have HT := Lib.hid hT; have hs2 := hb2.size; have HK2 := Lib.hid (HKK.out.below' hb2); have HB2 := Lib.hid (HW0.out.trans (hb2.mono HW0.out.size)); have HRt : Hid (∀ q ∈ [r], Fl.right q.f = true) := (fun q hq => by
        have : q = r := by simpa using hq
        rw [this, hr]; exact St.right0)
       clear hr hT hb2)
    | (go_at_call 25; refine (snew_any w2.heap.size t [r] w2 ⟨w2, _, rfl, HT.out, Below.refl _ _⟩ (Nat.le_refl _) HRt.out (by simp)).mono ?_; rintro e w3 ⟨p, m, rfl, hA3, hp3, hm3, hb3⟩; have HA3 := Lib.hid hA3; have HK3 := Lib.hid (HK2.out.below' hb3); have HB3 := Lib.hid (HB2.out.trans (hb3.mono HB2.out.size)); have hml := hA3.map.lt; have hcell0 : w3.cell? ⟨w.heap.size + 1, 0, none⟩ = some (.string ⟨#[66, 65]⟩) := HK3.out.cell 0; have hcell1 : w3.cell? ⟨w.heap.size + 1, 1, none⟩ = some (.int .i64 1) := HK3.out.cell 1; clear hA3 hb3)
    | (go_at_call 19; have hgd := HS6; refine (St.sell2 w2.heap.size p t m r HR.out _ HS6.out).mono ?_; rintro e w7 ⟨rfl, hS7, hf7⟩; have HS7 := Lib.hid hS7; have HB7 := Lib.hid (HB6.out.trans (hf7.below (B := w.heap.size) HB6.out.size (fun k hk => by have : k = m := hk; omega))); have HK7 := Lib.hid (HK6.out.kept (hf7.block w3.heap.size HK6.out.lt (fun e => by have e : w3.heap.size = m := e; omega))); have j70 : w7.cell? ⟨w3.heap.size, 0, none⟩ = some (.string ⟨#[66, 65]⟩) := HK7.out.cell 0; have j71 : w7.cell? ⟨w3.heap.size, 1, none⟩ = some (.int .i64 1) := HK7.out.cell 1; have j72 : w7.cell? ⟨w3.heap.size, 2, none⟩ = some (.int .i64 5) := HK7.out.cell 2; clear hS7 hf7)
    | (go_at_call 19; have hb4 : Below w3.heap.size w3 (w3.alloc (.cells #[.string ⟨#[66, 65]⟩, .int .i64 1, .int .i64 5] 34)) := (Below.refl _ _).alloc (Nat.le_refl _) _; refine (St.sell0 w2.heap.size p t m r HR.out _ ⟨[], HA3.out.kept hb4, fun k' => by by_cases h : k' = St.k0 <;> simp [h, St.sold]⟩).mono ?_; rintro e w5 ⟨rfl, hS5, hf5⟩; have HS5 := Lib.hid hS5; have hw23 : w.heap.size ≤ w3.heap.size := HB3.out.size; have HB4 := Lib.hid (HB3.out.trans (hb4.mono hw23)); have HB5 := Lib.hid (HB4.out.trans (hf5.below (B := w.heap.size) HB4.out.size (fun k hk => by have : k = m := hk; omega))); have HK5 : Hid (Rw.Blk w5 w3.heap.size 34 [.string ⟨#[66, 65]⟩, .int .i64 1, .int .i64 5]) := (show Rw.Blk (w3.alloc (.cells #[.string ⟨#[66, 65]⟩, .int .i64 1, .int .i64 5] 34)) w3.heap.size 34 [.string ⟨#[66, 65]⟩, .int .i64 1, .int .i64 5] from heap_alloc_new w3 _).kept (hf5.block w3.heap.size (by simp) (fun e => by have e : w3.heap.size = m := e; omega)); have j50 : w5.cell? ⟨w3.heap.size, 0, none⟩ = some (.string ⟨#[66, 65]⟩) := HK5.out.cell 0; have j51 : w5.cell? ⟨w3.heap.size, 1, none⟩ = some (.int .i64 1) := HK5.out.cell 1; have j52 : w5.cell? ⟨w3.heap.size, 2, none⟩ = some (.int .i64 5) := HK5.out.cell 2; clear hS5 hf5 hb4)
    | (go_at_call 22; refine (St.left2 w2.heap.size p t m r HR.out _ HS5.out).mono ?_; rintro e w6 ⟨rfl, hb6⟩; have HS6 := Lib.hid (HS5.out.kept hb6); have HB6 := Lib.hid (HB5.out.trans (hb6.mono HB5.out.size)); have HK6 := Lib.hid (HK5.out.below' hb6); have j60 : w6.cell? ⟨w3.heap.size, 0, none⟩ = some (.string ⟨#[66, 65]⟩) := HK6.out.cell 0; have j61 : w6.cell? ⟨w3.heap.size, 1, none⟩ = some (.int .i64 1) := HK6.out.cell 1; have j62 : w6.cell? ⟨w3.heap.size, 2, none⟩ = some (.int .i64 5) := HK6.out.cell 2; clear hb6)
    | (go_at_call 18; refine (St.sold2 w2.heap.size p t m r _ HS7.out).mono ?_; rintro e w8 ⟨rfl, hb8⟩; have HS8 := Lib.hid (HS7.out.kept hb8); have HB8 := Lib.hid (HB7.out.trans (hb8.mono HB7.out.size)); clear hb8)
    | (go_at_call 15; refine (St.avail2 w2.heap.size p t m r HR.out _ HS8.out).mono ?_; rintro e w9 ⟨⟨A9, c9, rfl⟩, hb9⟩; have HS9 := Lib.hid (HS8.out.kept hb9); have HB9 := Lib.hid (HB8.out.trans (hb9.mono HB8.out.size)); clear hb9)
    | (go_at_call 12; refine (St.legs2 w2.heap.size p t m r _ HS9.out).mono ?_; rintro e w10 ⟨⟨A10, c10, rfl⟩, hb10⟩; have HB10 := Lib.hid (HB9.out.trans (hb10.mono HB9.out.size)); clear hb10))
  go_ret
  exact ⟨rfl, HB10.out⟩
end Go.Proofs.YtmcekicaigbccaaGreat
