/- Contracts of Check and what it calls. -/
import Derived.Test.YtmcekicaigbccaaGreatFlMem
import Derived.Deep.QuietTactic
import Derived.BigQuiet
namespace Go.Proofs.YtmcekicaigbccaaGreat
open Go.RowKit
set_option linter.unusedVariables false

theorem rightRoute_any (r : Fl.R) (w : World) (h1 : r.f.frm.size ≤ 9223372036854775807) (h2 : r.f.to.size ≤ 9223372036854775807) : Calls Tryz.prog 70 #[Fl.fv r] w fun e w' => e = .returned (.bool (Fl.routeOk r.f)) ∧ Below w.heap.size w w' := by
  have hc := Lib.hid (fun (s : ByteArray) w (h : s.size ≤ 9223372036854775807) => city_any s w h)
  have HE : Hid (Fl.routeOk r.f = (Cd.city r.f.frm && Cd.city r.f.to && decide (r.f.frm ≠ r.f.to))) := show _ = _ by rfl
  obtain ⟨⟨car, num, frm, to, days, dep, arr, cls, plan⟩, A, cap⟩ := r
  simp only at h1 h2 HE ⊢
  unfold Fl.fv
  have hbe := (Below.refl w.heap.size w).alloc (Nat.le_refl _) (.cells #[.string car, .int .i64 num, .string frm, .string to, .int .u8 days, .int .i64 dep, .int .i64 arr, .slice A cls.length cap, .int .i64 plan] 62)
  generalize Fl.routeOk _ = q at *
  have h3 := Lib.hid (city_any frm (w.alloc (.cells #[.string car, .int .i64 num, .string frm, .string to, .int .u8 days, .int .i64 dep, .int .i64 arr, .slice A cls.length cap, .int .i64 plan] 62)) h1)
  have h4 := Lib.hid (city_any to (w.alloc (.cells #[.string car, .int .i64 num, .string frm, .string to, .int .u8 days, .int .i64 dep, .int .i64 arr, .slice A cls.length cap, .int .i64 plan] 62)) h2)
  generalize Cd.city frm = c1 at *
  generalize Cd.city to = c2 at *
  clear hc
  cases c1
  · go_enter Tryz.func70, Tryz.ntmps70
    go_wp2_with (go_at_call 91; refine h3.out.mono ?_; rintro e w' ⟨rfl, rfl⟩)
    go_ret
    exact ⟨Cd.ret_bool (by rw [HE.out]; rfl), hbe⟩
  · cases c2
    · go_enter Tryz.func70, Tryz.ntmps70
      go_wp2_with (first
        | (go_at_call 91; (with_reducible refine h4.out.mono ?_); rintro e w' ⟨rfl, rfl⟩)
        | (go_at_call 91; (with_reducible refine h3.out.mono ?_); rintro e w' ⟨rfl, rfl⟩))
      go_ret
      exact ⟨Cd.ret_bool (by rw [HE.out]; rfl), hbe⟩
    · by_cases he : frm = to
      · subst he
        go_enter Tryz.func70, Tryz.ntmps70
        go_wp2_with (go_at_call 91; refine h3.out.mono ?_; rintro e w' ⟨rfl, rfl⟩)
        go_ret
        exact ⟨Cd.ret_bool (by rw [HE.out]; simp), hbe⟩
      · have hne := Fl.str_ne he
        go_enter Tryz.func70, Tryz.ntmps70
        go_wp2_with (first
          | (go_at_call 91; (with_reducible refine h4.out.mono ?_); rintro e w' ⟨rfl, rfl⟩)
          | (go_at_call 91; (with_reducible refine h3.out.mono ?_); rintro e w' ⟨rfl, rfl⟩))
        go_ret
        exact ⟨Cd.ret_bool (by rw [HE.out]; simp [he]), hbe⟩
theorem rightTimes_any (r : Fl.R) (w : World) : Calls Tryz.prog 71 #[Fl.fv r] w fun e w' => e = .returned (.bool (Fl.timesOk r.f)) ∧ Below w.heap.size w w' := by
  have HE : Hid (Fl.timesOk r.f = (decide (1 ≤ r.f.days) && decide (r.f.days ≤ 127) && Dt.isMin r.f.dep && Dt.isMin r.f.arr)) := show _ = _ by rfl
  obtain ⟨⟨car, num, frm, to, days, dep, arr, cls, plan⟩, A, cap⟩ := r
  simp only at HE ⊢
  unfold Fl.fv
  have hbe := (Below.refl w.heap.size w).alloc (Nat.le_refl _) (.cells #[.string car, .int .i64 num, .string frm, .string to, .int .u8 days, .int .i64 dep, .int .i64 arr, .slice A cls.length cap, .int .i64 plan] 62)
  generalize Fl.timesOk _ = q at *
  have h3 := Lib.hid (isMinute_any dep (w.alloc (.cells #[.string car, .int .i64 num, .string frm, .string to, .int .u8 days, .int .i64 dep, .int .i64 arr, .slice A cls.length cap, .int .i64 plan] 62)))
  have h4 := Lib.hid (isMinute_any arr (w.alloc (.cells #[.string car, .int .i64 num, .string frm, .string to, .int .u8 days, .int .i64 dep, .int .i64 arr, .slice A cls.length cap, .int .i64 plan] 62)))
  generalize Dt.isMin dep = c1 at *
  generalize Dt.isMin arr = c2 at *
  by_cases h1 : 1 ≤ days
  · by_cases h2 : days ≤ 127
    · cases c1
      · go_enter Tryz.func71, Tryz.ntmps71
        go_wp2_with (go_at_call 92; refine h3.out.mono ?_; rintro e w' ⟨rfl, rfl⟩)
        go_ret
        exact ⟨Cd.ret_bool (by rw [HE.out, decide_eq_true h1, decide_eq_true h2]; rfl), hbe⟩
      · go_enter Tryz.func71, Tryz.ntmps71
        go_wp2_with (first
          | (go_at_call 92; (with_reducible refine h4.out.mono ?_); rintro e w' ⟨rfl, rfl⟩)
          | (go_at_call 92; (with_reducible refine h3.out.mono ?_); rintro e w' ⟨rfl, rfl⟩))
        go_ret
        exact ⟨Cd.ret_bool (by rw [HE.out, decide_eq_true h1, decide_eq_true h2]; cases c2 <;> rfl), hbe⟩
    · go_enter Tryz.func71, Tryz.ntmps71
      go_wp2
      go_ret
      exact ⟨Cd.ret_bool (by rw [HE.out, decide_eq_false (p := days ≤ 127) (by omega), Bool.and_false]; rfl), hbe⟩
  · go_enter Tryz.func71, Tryz.ntmps71
    go_wp2
    go_ret
    exact ⟨Cd.ret_bool (by rw [HE.out, decide_eq_false (p := 1 ≤ days) (by omega)]; rfl), hbe⟩

namespace Fl
theorem clsOk_no {l : List (Int × Int)} {k : Nat} (h : k < l.length) (hk : cOk l k = false) : clsOk l = false := by
  have : (List.range l.length).all (cOk l) = false := by
    rw [List.all_eq_false]
    exact ⟨k, by simpa using h, by simp [hk]⟩
  rw [clsOk, this, Bool.and_false]
theorem clsOk_yes {l : List (Int × Int)} (h1 : 1 ≤ l.length) (h2 : l.length ≤ 6) (hk : ∀ j, j < l.length → cOk l j = true) : clsOk l = true := by
  rw [clsOk, decide_eq_true h1, decide_eq_true h2]
  simp only [Bool.and_true, Bool.true_and, List.all_eq_true, List.mem_range]
  exact hk
end Fl
set_option maxHeartbeats 1000000 in
theorem rightClasses_any (A : Option Addr) (l : List (Int × Int)) (cap B : Nat) (w : World) (h : Fl.Cls w B A l) (hB : B ≤ w.heap.size) (hl : l.length ≤ 9223372036854775807) :
    Calls Tryz.prog 72 #[.slice A l.length cap] w fun e w' => e = .returned (.bool (Fl.clsOk l)) ∧ Below w.heap.size w w' := by
  rcases (show l.length < 1 ∨ (1 ≤ l.length ∧ 6 < l.length) ∨ (1 ≤ l.length ∧ l.length ≤ 6) by omega) with h1 | ⟨h1, h2⟩ | ⟨h1, h2⟩
  · have HN : Hid (Fl.clsOk l = false) := show _ = _ by rw [Fl.clsOk, decide_eq_false (p := 1 ≤ l.length) (by omega)]; rfl
    go_enter Tryz.func72, Tryz.ntmps72
    go_wp2
    go_ret
    exact ⟨Cd.ret_bool HN.out.symm, Below.refl _ _⟩
  · have HN : Hid (Fl.clsOk l = false) := show _ = _ by rw [Fl.clsOk, decide_eq_false (p := l.length ≤ 6) (by omega), Bool.and_false]; rfl
    go_enter Tryz.func72, Tryz.ntmps72
    go_wp2
    go_ret
    exact ⟨Cd.ret_bool HN.out.symm, Below.refl _ _⟩
  · obtain ⟨b, off, rfl, hb, hc⟩ := h.at (by omega)
    have HC := Lib.hid hc
    have HY : Hid ((∀ j, j < l.length → Fl.cOk l j = true) → Fl.clsOk l = true) := fun hk => Fl.clsOk_yes h1 h2 hk
    have HNo : Hid (∀ k, k < l.length → Fl.cOk l k = false → Fl.clsOk l = false) := fun k => Fl.clsOk_no
    have HO : Hid (∀ k, Fl.cOk l k = (Cd.isL (Fl.lt l k) && decide (0 ≤ Fl.lv l k) && decide (Fl.lv l k ≤ 400) && (decide (k = 0) || decide (Fl.lt l (k - 1) < Fl.lt l k)))) := fun _ => rfl
    clear hc h
    generalize Fl.clsOk l = res at *
    go_enter Tryz.func72, Tryz.ntmps72
    go_wp2
    go_loopw [15] (fun i wr => ∃ k : Nat, k ≤ l.length ∧ i = .int .i64 k ∧ Hid (∀ j, j < k → Fl.cOk l j = true) ∧ Below w.heap.size w wr) (fun i _ => l.length - (intOf i).toNat)
    case atStart => exact ⟨0, by omega, rfl, fun j hj => absurd hj (by omega), Below.refl _ _⟩
    case round =>
      obtain ⟨k, hk, rfl, HK, hbr⟩ := hrel
      by_cases hlt : k < l.length
      · obtain ⟨g0, g1⟩ := HC.out k hlt
        have c0 := (hbr.cell (p := ⟨b, off + k * 2, none⟩) (Nat.lt_of_lt_of_le hb hB)).trans g0
        have c1 := (hbr.cell (p := ⟨b, off + k * 2 + 1, none⟩) (Nat.lt_of_lt_of_le hb hB)).trans g1
        have hbn := (hbr.alloc hbr.size (.cells #[.int .u8 (Fl.lt l k), .int .i64 (Fl.lv l k)] 59))
        have hon := HO.out k
        have hno := HNo.out k hlt
        clear g0 g1
        cases hL : Cd.isL (Fl.lt l k) with
        | false =>
          have HN := Lib.hid (hno (by rw [hon, hL]; rfl))
          clear hno hon
          go_wp2_with (go_at_call 93; refine (class_any _ _).mono ?_; rintro e w' ⟨rfl, rfl⟩)
          go_ret
          exact ⟨Cd.ret_bool HN.out.symm, hbn⟩
        | true =>
          rcases (show Fl.lv l k < 0 ∨ (0 ≤ Fl.lv l k ∧ 400 < Fl.lv l k) ∨ (0 ≤ Fl.lv l k ∧ Fl.lv l k ≤ 400) by omega) with h3 | ⟨h3, h4⟩ | ⟨h3, h4⟩
          · have HN := Lib.hid (hno (by rw [hon, decide_eq_false (p := 0 ≤ Fl.lv l k) (by omega), Bool.and_false]; rfl))
            clear hno hon
            go_wp2_with (go_at_call 93; refine (class_any _ _).mono ?_; rintro e w' ⟨rfl, rfl⟩)
            go_ret
            exact ⟨Cd.ret_bool HN.out.symm, hbn⟩
          · have HN := Lib.hid (hno (by rw [hon, decide_eq_false (p := Fl.lv l k ≤ 400) (by omega), Bool.and_false]; rfl))
            clear hno hon
            go_wp2_with (go_at_call 93; refine (class_any _ _).mono ?_; rintro e w' ⟨rfl, rfl⟩)
            go_ret
            exact ⟨Cd.ret_bool HN.out.symm, hbn⟩
          · rw [hL, decide_eq_true h3, decide_eq_true h4] at hon
            by_cases h0 : k = 0
            · have HN : Hid (∀ j, j < k + 1 → Fl.cOk l j = true) := fun j hj => by
                rw [show j = k by omega, hon, decide_eq_true h0]; rfl
              have HZ := Lib.hid h0
              have hd : decide (0 < (k : Int)) = false := by simp; omega
              have hd2 : decide (0 < k) = false := by simp; omega
              clear hno hon h0
              go_wp2_with (go_at_call 93; refine (class_any _ _).mono ?_; rintro e w' ⟨rfl, rfl⟩)
              go_quiet (fail)
              go_wp2
              go_roundw
              case rel => exact ⟨k + 1, by omega, by go_num, HN, Fl.below_drewN hbn _⟩
              case measure => simp [intOf]; omega
            · rw [decide_eq_false h0] at hon
              obtain ⟨m, hm⟩ : ∃ m, k - 1 = m := ⟨_, rfl⟩
              rw [hm] at hon
              have hm2 : m < l.length := by omega
              obtain ⟨g0, _⟩ := HC.out m hm2
              have cm := (hbr.cell (p := ⟨b, off + m * 2, none⟩) (Nat.lt_of_lt_of_le hb hB)).trans g0
              have hd : decide (0 < (k : Int)) = true := by simp; omega
              have hd2 : decide (0 < k) = true := by simp; omega
              have hw : (k : Int) - 1 = (m : Int) := by omega
              have hw2 : IntKind.i64.wrap (m : Int) = (m : Int) := IntWalk.i64_in _ (by omega)
              have cm2 : ∀ q, ((wr.alloc (.cells #[.int .u8 (Fl.lt l k), .int .i64 (Fl.lv l k)] 59)).drewN q).cell? ⟨b, off + m * 2, none⟩ = some (.int .u8 (Fl.lt l m)) := fun q => by
                have hb2 : Below wr.heap.size wr ((wr.alloc (.cells #[.int .u8 (Fl.lt l k), .int .i64 (Fl.lv l k)] 59)).drewN q) := Fl.below_drewN ((Below.refl _ _).alloc (Nat.le_refl _) _) q
                exact (hb2.cell (p := ⟨b, off + m * 2, none⟩) (Nat.lt_of_lt_of_le hb (Nat.le_trans hB hbr.size))).trans cm
              clear g0 hm
              by_cases h5 : Fl.lt l m < Fl.lt l k
              · have HN : Hid (∀ j, j < k + 1 → Fl.cOk l j = true) := fun j hj => by
                  rcases Nat.lt_or_ge j k with hj' | hj'
                  · exact HK.out j hj'
                  · rw [show j = k by omega, hon, decide_eq_true h5]; rfl
                have hd3 : decide (Fl.lt l k ≤ Fl.lt l m) = false := by simp; omega
                clear hno hon h0
                go_wp2_with (go_at_call 93; refine (class_any _ _).mono ?_; rintro e w' ⟨rfl, rfl⟩)
                go_quiet (fail)
                go_wp2
                go_roundw
                case rel => exact ⟨k + 1, by omega, by go_num, HN, Fl.below_drewN hbn _⟩
                case measure => simp [intOf]; omega
              · have HN := Lib.hid (hno (by rw [hon, decide_eq_false h5]; rfl))
                have hd3 : decide (Fl.lt l k ≤ Fl.lt l m) = true := by simp; omega
                clear hno hon h0
                go_wp2_with (go_at_call 93; refine (class_any _ _).mono ?_; rintro e w' ⟨rfl, rfl⟩)
                go_quiet (fail)
                go_wp2
                go_ret
                exact ⟨Cd.ret_bool HN.out.symm, Fl.below_drewN hbn _⟩
      · go_wp2
        go_ret
        exact ⟨Cd.ret_bool (HY.out (fun j hj => HK.out j (by omega))).symm, hbr⟩
/-- A flight is told right or not. -/
def Fl.code (f : Fl.F) : Int := if Fl.right f then 0 else 4
set_option maxHeartbeats 1000000 in
theorem check_yes (r : Fl.R) (B : Nat) (w : World) (hw : Fl.Wf r) (h : Fl.Cls w B r.A r.f.cls) (hB : B ≤ w.heap.size) (hr : Fl.right r.f = true) :
    Calls Tryz.prog 48 #[Fl.fv r] w fun e w' => e = .returned (.int .i64 0) ∧ Below w.heap.size w w' := by
  unfold Fl.right at hr
  simp only [Bool.and_eq_true] at hr
  obtain ⟨⟨⟨⟨h1, h2⟩, h3⟩, h4⟩, h5⟩ := hr
  unfold Fl.planOk at h5
  simp only [Bool.and_eq_true, decide_eq_true_eq] at h5
  obtain ⟨p0, p1⟩ := h5
  have bA := (Below.refl w.heap.size w).alloc (Nat.le_refl _) (.cells #[.string r.f.car, .int .i64 r.f.num, .string r.f.frm, .string r.f.to, .int .u8 r.f.days, .int .i64 r.f.dep, .int .i64 r.f.arr, .slice r.A r.f.cls.length r.cap, .int .i64 r.f.plan] 62)
  have H1 := Lib.hid (fun w => rightKey_any r.f w hw.car)
  have H2 := Lib.hid (fun w => rightRoute_any r w hw.frm hw.to)
  have H3 := Lib.hid (fun w => rightTimes_any r w)
  have H4 := Lib.hid (fun w' (hb : Below w.heap.size w w') => rightClasses_any r.A r.f.cls r.cap B w' (h.below hb hB) (Nat.le_trans hB hb.size) hw.l)
  rw [h1] at H1
  rw [h2] at H2
  rw [h3] at H3
  rw [h4] at H4
  have HB := Lib.hid bA
  clear h1 h2 h3 h4 bA h hw
  obtain ⟨⟨car, num, frm, to, days, dep, arr, cls, plan⟩, A, cap⟩ := r
  unfold Fl.fv at *
  simp only at H1 H2 H3 H4 HB p0 p1 ⊢
  have hq : w.heap.size < (w.alloc (.cells #[.string car, .int .i64 num, .string frm, .string to, .int .u8 days, .int .i64 dep, .int .i64 arr, .slice A cls.length cap, .int .i64 plan] 62)).heap.size := by simp
  go_enter Tryz.func48, Tryz.ntmps48
  go_wp2_with (first
    | (go_at_call 69; refine (H1.out _).mono ?_; rintro e w1 ⟨rfl, hb1⟩; obtain ⟨hc1, hf1⟩ := Fl.bcell hb1)
    | (go_at_call 70; refine (H2.out _).mono ?_; rintro e w2 ⟨rfl, hb2⟩; have k2 := hb1.trans (hb2.mono hb1.size); obtain ⟨hc2, hf2⟩ := Fl.bcell k2)
    | (go_at_call 71; refine (H3.out _).mono ?_; rintro e w3 ⟨rfl, hb3⟩; have k3 := k2.trans (hb3.mono k2.size); obtain ⟨hc3, hf3⟩ := Fl.bcell k3)
    | (go_at_call 72; refine (H4.out _ (HB.out.trans (k3.mono HB.out.size))).mono ?_; rintro e w4 ⟨rfl, hb4⟩; have k4 := k3.trans (hb4.mono k3.size); obtain ⟨hc4, hf4⟩ := Fl.bcell k4))
  go_ret
  exact ⟨rfl, HB.out.trans (k4.mono HB.out.size)⟩
set_option maxHeartbeats 1000000 in
theorem check_no_key (r : Fl.R) (B : Nat) (w : World) (hw : Fl.Wf r) (h : Fl.Cls w B r.A r.f.cls) (hB : B ≤ w.heap.size) (h1 : Fl.keyOk r.f = false) :
    Calls Tryz.prog 48 #[Fl.fv r] w fun e w' => e = .returned (.int .i64 4) ∧ Below w.heap.size w w' := by
  have bA := (Below.refl w.heap.size w).alloc (Nat.le_refl _) (.cells #[.string r.f.car, .int .i64 r.f.num, .string r.f.frm, .string r.f.to, .int .u8 r.f.days, .int .i64 r.f.dep, .int .i64 r.f.arr, .slice r.A r.f.cls.length r.cap, .int .i64 r.f.plan] 62)
  have H1 := Lib.hid (fun w => rightKey_any r.f w hw.car)
  have H2 := Lib.hid (fun w => rightRoute_any r w hw.frm hw.to)
  have H3 := Lib.hid (fun w => rightTimes_any r w)
  have H4 := Lib.hid (fun w' (hb : Below w.heap.size w w') => rightClasses_any r.A r.f.cls r.cap B w' (h.below hb hB) (Nat.le_trans hB hb.size) hw.l)
  rw [h1] at H1
  clear H2 H3 H4
  have HB := Lib.hid bA
  clear h1 bA h hw
  obtain ⟨⟨car, num, frm, to, days, dep, arr, cls, plan⟩, A, cap⟩ := r
  unfold Fl.fv at *
  simp only at H1 HB  ⊢
  have hq : w.heap.size < (w.alloc (.cells #[.string car, .int .i64 num, .string frm, .string to, .int .u8 days, .int .i64 dep, .int .i64 arr, .slice A cls.length cap, .int .i64 plan] 62)).heap.size := by simp
  go_enter Tryz.func48, Tryz.ntmps48
  go_wp2_with (first
    | (go_at_call 69; refine (H1.out _).mono ?_; rintro e w1 ⟨rfl, hb1⟩; obtain ⟨hc1, hf1⟩ := Fl.bcell hb1))
  go_ret
  exact ⟨rfl, HB.out.trans (hb1.mono HB.out.size)⟩
set_option maxHeartbeats 1000000 in
theorem check_no_route (r : Fl.R) (B : Nat) (w : World) (hw : Fl.Wf r) (h : Fl.Cls w B r.A r.f.cls) (hB : B ≤ w.heap.size) (h1 : Fl.keyOk r.f = true) (h2 : Fl.routeOk r.f = false) :
    Calls Tryz.prog 48 #[Fl.fv r] w fun e w' => e = .returned (.int .i64 4) ∧ Below w.heap.size w w' := by
  have bA := (Below.refl w.heap.size w).alloc (Nat.le_refl _) (.cells #[.string r.f.car, .int .i64 r.f.num, .string r.f.frm, .string r.f.to, .int .u8 r.f.days, .int .i64 r.f.dep, .int .i64 r.f.arr, .slice r.A r.f.cls.length r.cap, .int .i64 r.f.plan] 62)
  have H1 := Lib.hid (fun w => rightKey_any r.f w hw.car)
  have H2 := Lib.hid (fun w => rightRoute_any r w hw.frm hw.to)
  have H3 := Lib.hid (fun w => rightTimes_any r w)
  have H4 := Lib.hid (fun w' (hb : Below w.heap.size w w') => rightClasses_any r.A r.f.cls r.cap B w' (h.below hb hB) (Nat.le_trans hB hb.size) hw.l)
  rw [h1] at H1
  rw [h2] at H2
  clear H3 H4
  have HB := Lib.hid bA
  clear h1 h2 bA h hw
  obtain ⟨⟨car, num, frm, to, days, dep, arr, cls, plan⟩, A, cap⟩ := r
  unfold Fl.fv at *
  simp only at H1 H2 HB  ⊢
  have hq : w.heap.size < (w.alloc (.cells #[.string car, .int .i64 num, .string frm, .string to, .int .u8 days, .int .i64 dep, .int .i64 arr, .slice A cls.length cap, .int .i64 plan] 62)).heap.size := by simp
  go_enter Tryz.func48, Tryz.ntmps48
  go_wp2_with (first
    | (go_at_call 69; refine (H1.out _).mono ?_; rintro e w1 ⟨rfl, hb1⟩; obtain ⟨hc1, hf1⟩ := Fl.bcell hb1)
    | (go_at_call 70; refine (H2.out _).mono ?_; rintro e w2 ⟨rfl, hb2⟩; have k2 := hb1.trans (hb2.mono hb1.size); obtain ⟨hc2, hf2⟩ := Fl.bcell k2))
  go_ret
  exact ⟨rfl, HB.out.trans (k2.mono HB.out.size)⟩
set_option maxHeartbeats 1000000 in
theorem check_no_times (r : Fl.R) (B : Nat) (w : World) (hw : Fl.Wf r) (h : Fl.Cls w B r.A r.f.cls) (hB : B ≤ w.heap.size) (h1 : Fl.keyOk r.f = true) (h2 : Fl.routeOk r.f = true) (h3 : Fl.timesOk r.f = false) :
    Calls Tryz.prog 48 #[Fl.fv r] w fun e w' => e = .returned (.int .i64 4) ∧ Below w.heap.size w w' := by
  have bA := (Below.refl w.heap.size w).alloc (Nat.le_refl _) (.cells #[.string r.f.car, .int .i64 r.f.num, .string r.f.frm, .string r.f.to, .int .u8 r.f.days, .int .i64 r.f.dep, .int .i64 r.f.arr, .slice r.A r.f.cls.length r.cap, .int .i64 r.f.plan] 62)
  have H1 := Lib.hid (fun w => rightKey_any r.f w hw.car)
  have H2 := Lib.hid (fun w => rightRoute_any r w hw.frm hw.to)
  have H3 := Lib.hid (fun w => rightTimes_any r w)
  have H4 := Lib.hid (fun w' (hb : Below w.heap.size w w') => rightClasses_any r.A r.f.cls r.cap B w' (h.below hb hB) (Nat.le_trans hB hb.size) hw.l)
  rw [h1] at H1
  rw [h2] at H2
  rw [h3] at H3
  clear H4
  have HB := Lib.hid bA
  clear h1 h2 h3 bA h hw
  obtain ⟨⟨car, num, frm, to, days, dep, arr, cls, plan⟩, A, cap⟩ := r
  unfold Fl.fv at *
  simp only at H1 H2 H3 HB  ⊢
  have hq : w.heap.size < (w.alloc (.cells #[.string car, .int .i64 num, .string frm, .string to, .int .u8 days, .int .i64 dep, .int .i64 arr, .slice A cls.length cap, .int .i64 plan] 62)).heap.size := by simp
  go_enter Tryz.func48, Tryz.ntmps48
  go_wp2_with (first
    | (go_at_call 69; refine (H1.out _).mono ?_; rintro e w1 ⟨rfl, hb1⟩; obtain ⟨hc1, hf1⟩ := Fl.bcell hb1)
    | (go_at_call 70; refine (H2.out _).mono ?_; rintro e w2 ⟨rfl, hb2⟩; have k2 := hb1.trans (hb2.mono hb1.size); obtain ⟨hc2, hf2⟩ := Fl.bcell k2)
    | (go_at_call 71; refine (H3.out _).mono ?_; rintro e w3 ⟨rfl, hb3⟩; have k3 := k2.trans (hb3.mono k2.size); obtain ⟨hc3, hf3⟩ := Fl.bcell k3))
  go_ret
  exact ⟨rfl, HB.out.trans (k3.mono HB.out.size)⟩
set_option maxHeartbeats 1000000 in
theorem check_no_cls (r : Fl.R) (B : Nat) (w : World) (hw : Fl.Wf r) (h : Fl.Cls w B r.A r.f.cls) (hB : B ≤ w.heap.size) (h1 : Fl.keyOk r.f = true) (h2 : Fl.routeOk r.f = true) (h3 : Fl.timesOk r.f = true) (h4 : Fl.clsOk r.f.cls = false) :
    Calls Tryz.prog 48 #[Fl.fv r] w fun e w' => e = .returned (.int .i64 4) ∧ Below w.heap.size w w' := by
  have bA := (Below.refl w.heap.size w).alloc (Nat.le_refl _) (.cells #[.string r.f.car, .int .i64 r.f.num, .string r.f.frm, .string r.f.to, .int .u8 r.f.days, .int .i64 r.f.dep, .int .i64 r.f.arr, .slice r.A r.f.cls.length r.cap, .int .i64 r.f.plan] 62)
  have H1 := Lib.hid (fun w => rightKey_any r.f w hw.car)
  have H2 := Lib.hid (fun w => rightRoute_any r w hw.frm hw.to)
  have H3 := Lib.hid (fun w => rightTimes_any r w)
  have H4 := Lib.hid (fun w' (hb : Below w.heap.size w w') => rightClasses_any r.A r.f.cls r.cap B w' (h.below hb hB) (Nat.le_trans hB hb.size) hw.l)
  rw [h1] at H1
  rw [h2] at H2
  rw [h3] at H3
  rw [h4] at H4
  have HB := Lib.hid bA
  clear h1 h2 h3 h4 bA h hw
  obtain ⟨⟨car, num, frm, to, days, dep, arr, cls, plan⟩, A, cap⟩ := r
  unfold Fl.fv at *
  simp only at H1 H2 H3 H4 HB  ⊢
  have hq : w.heap.size < (w.alloc (.cells #[.string car, .int .i64 num, .string frm, .string to, .int .u8 days, .int .i64 dep, .int .i64 arr, .slice A cls.length cap, .int .i64 plan] 62)).heap.size := by simp
  go_enter Tryz.func48, Tryz.ntmps48
  go_wp2_with (first
    | (go_at_call 69; refine (H1.out _).mono ?_; rintro e w1 ⟨rfl, hb1⟩; obtain ⟨hc1, hf1⟩ := Fl.bcell hb1)
    | (go_at_call 70; refine (H2.out _).mono ?_; rintro e w2 ⟨rfl, hb2⟩; have k2 := hb1.trans (hb2.mono hb1.size); obtain ⟨hc2, hf2⟩ := Fl.bcell k2)
    | (go_at_call 71; refine (H3.out _).mono ?_; rintro e w3 ⟨rfl, hb3⟩; have k3 := k2.trans (hb3.mono k2.size); obtain ⟨hc3, hf3⟩ := Fl.bcell k3)
    | (go_at_call 72; refine (H4.out _ (HB.out.trans (k3.mono HB.out.size))).mono ?_; rintro e w4 ⟨rfl, hb4⟩; have k4 := k3.trans (hb4.mono k3.size); obtain ⟨hc4, hf4⟩ := Fl.bcell k4))
  go_ret
  exact ⟨rfl, HB.out.trans (k4.mono HB.out.size)⟩
set_option maxHeartbeats 1000000 in
theorem check_no_plan0 (r : Fl.R) (B : Nat) (w : World) (hw : Fl.Wf r) (h : Fl.Cls w B r.A r.f.cls) (hB : B ≤ w.heap.size) (h1 : Fl.keyOk r.f = true) (h2 : Fl.routeOk r.f = true) (h3 : Fl.timesOk r.f = true) (h4 : Fl.clsOk r.f.cls = true) (p0 : r.f.plan < 0) :
    Calls Tryz.prog 48 #[Fl.fv r] w fun e w' => e = .returned (.int .i64 4) ∧ Below w.heap.size w w' := by
  have bA := (Below.refl w.heap.size w).alloc (Nat.le_refl _) (.cells #[.string r.f.car, .int .i64 r.f.num, .string r.f.frm, .string r.f.to, .int .u8 r.f.days, .int .i64 r.f.dep, .int .i64 r.f.arr, .slice r.A r.f.cls.length r.cap, .int .i64 r.f.plan] 62)
  have H1 := Lib.hid (fun w => rightKey_any r.f w hw.car)
  have H2 := Lib.hid (fun w => rightRoute_any r w hw.frm hw.to)
  have H3 := Lib.hid (fun w => rightTimes_any r w)
  have H4 := Lib.hid (fun w' (hb : Below w.heap.size w w') => rightClasses_any r.A r.f.cls r.cap B w' (h.below hb hB) (Nat.le_trans hB hb.size) hw.l)
  rw [h1] at H1
  rw [h2] at H2
  rw [h3] at H3
  rw [h4] at H4
  have HB := Lib.hid bA
  clear h1 h2 h3 h4 bA h hw
  obtain ⟨⟨car, num, frm, to, days, dep, arr, cls, plan⟩, A, cap⟩ := r
  unfold Fl.fv at *
  simp only at H1 H2 H3 H4 HB p0 ⊢
  have hq : w.heap.size < (w.alloc (.cells #[.string car, .int .i64 num, .string frm, .string to, .int .u8 days, .int .i64 dep, .int .i64 arr, .slice A cls.length cap, .int .i64 plan] 62)).heap.size := by simp
  go_enter Tryz.func48, Tryz.ntmps48
  go_wp2_with (first
    | (go_at_call 69; refine (H1.out _).mono ?_; rintro e w1 ⟨rfl, hb1⟩; obtain ⟨hc1, hf1⟩ := Fl.bcell hb1)
    | (go_at_call 70; refine (H2.out _).mono ?_; rintro e w2 ⟨rfl, hb2⟩; have k2 := hb1.trans (hb2.mono hb1.size); obtain ⟨hc2, hf2⟩ := Fl.bcell k2)
    | (go_at_call 71; refine (H3.out _).mono ?_; rintro e w3 ⟨rfl, hb3⟩; have k3 := k2.trans (hb3.mono k2.size); obtain ⟨hc3, hf3⟩ := Fl.bcell k3)
    | (go_at_call 72; refine (H4.out _ (HB.out.trans (k3.mono HB.out.size))).mono ?_; rintro e w4 ⟨rfl, hb4⟩; have k4 := k3.trans (hb4.mono k3.size); obtain ⟨hc4, hf4⟩ := Fl.bcell k4))
  go_ret
  exact ⟨rfl, HB.out.trans (k4.mono HB.out.size)⟩
set_option maxHeartbeats 1000000 in
theorem check_no_plan8 (r : Fl.R) (B : Nat) (w : World) (hw : Fl.Wf r) (h : Fl.Cls w B r.A r.f.cls) (hB : B ≤ w.heap.size) (h1 : Fl.keyOk r.f = true) (h2 : Fl.routeOk r.f = true) (h3 : Fl.timesOk r.f = true) (h4 : Fl.clsOk r.f.cls = true) (p0 : 0 ≤ r.f.plan) (p1 : 8 ≤ r.f.plan) :
    Calls Tryz.prog 48 #[Fl.fv r] w fun e w' => e = .returned (.int .i64 4) ∧ Below w.heap.size w w' := by
  have bA := (Below.refl w.heap.size w).alloc (Nat.le_refl _) (.cells #[.string r.f.car, .int .i64 r.f.num, .string r.f.frm, .string r.f.to, .int .u8 r.f.days, .int .i64 r.f.dep, .int .i64 r.f.arr, .slice r.A r.f.cls.length r.cap, .int .i64 r.f.plan] 62)
  have H1 := Lib.hid (fun w => rightKey_any r.f w hw.car)
  have H2 := Lib.hid (fun w => rightRoute_any r w hw.frm hw.to)
  have H3 := Lib.hid (fun w => rightTimes_any r w)
  have H4 := Lib.hid (fun w' (hb : Below w.heap.size w w') => rightClasses_any r.A r.f.cls r.cap B w' (h.below hb hB) (Nat.le_trans hB hb.size) hw.l)
  rw [h1] at H1
  rw [h2] at H2
  rw [h3] at H3
  rw [h4] at H4
  have HB := Lib.hid bA
  clear h1 h2 h3 h4 bA h hw
  obtain ⟨⟨car, num, frm, to, days, dep, arr, cls, plan⟩, A, cap⟩ := r
  unfold Fl.fv at *
  simp only at H1 H2 H3 H4 HB p0 p1 ⊢
  have hq : w.heap.size < (w.alloc (.cells #[.string car, .int .i64 num, .string frm, .string to, .int .u8 days, .int .i64 dep, .int .i64 arr, .slice A cls.length cap, .int .i64 plan] 62)).heap.size := by simp
  go_enter Tryz.func48, Tryz.ntmps48
  go_wp2_with (first
    | (go_at_call 69; refine (H1.out _).mono ?_; rintro e w1 ⟨rfl, hb1⟩; obtain ⟨hc1, hf1⟩ := Fl.bcell hb1)
    | (go_at_call 70; refine (H2.out _).mono ?_; rintro e w2 ⟨rfl, hb2⟩; have k2 := hb1.trans (hb2.mono hb1.size); obtain ⟨hc2, hf2⟩ := Fl.bcell k2)
    | (go_at_call 71; refine (H3.out _).mono ?_; rintro e w3 ⟨rfl, hb3⟩; have k3 := k2.trans (hb3.mono k2.size); obtain ⟨hc3, hf3⟩ := Fl.bcell k3)
    | (go_at_call 72; refine (H4.out _ (HB.out.trans (k3.mono HB.out.size))).mono ?_; rintro e w4 ⟨rfl, hb4⟩; have k4 := k3.trans (hb4.mono k3.size); obtain ⟨hc4, hf4⟩ := Fl.bcell k4))
  go_ret
  exact ⟨rfl, HB.out.trans (k4.mono HB.out.size)⟩
theorem check_no (r : Fl.R) (B : Nat) (w : World) (hw : Fl.Wf r) (h : Fl.Cls w B r.A r.f.cls) (hB : B ≤ w.heap.size) (hr : Fl.right r.f = false) :
    Calls Tryz.prog 48 #[Fl.fv r] w fun e w' => e = .returned (.int .i64 4) ∧ Below w.heap.size w w' := by
  unfold Fl.right at hr
  cases h1 : Fl.keyOk r.f with
  | false => exact check_no_key r B w hw h hB h1
  | true =>
    cases h2 : Fl.routeOk r.f with
    | false => exact check_no_route r B w hw h hB h1 h2
    | true =>
      cases h3 : Fl.timesOk r.f with
      | false => exact check_no_times r B w hw h hB h1 h2 h3
      | true =>
        cases h4 : Fl.clsOk r.f.cls with
        | false => exact check_no_cls r B w hw h hB h1 h2 h3 h4
        | true =>
          rw [h1, h2, h3, h4] at hr
          unfold Fl.planOk at hr
          rcases (show r.f.plan < 0 ∨ (0 ≤ r.f.plan ∧ 8 ≤ r.f.plan) ∨ (0 ≤ r.f.plan ∧ r.f.plan < 8) by omega) with p0 | ⟨p0, p1⟩ | ⟨p0, p1⟩
          · exact check_no_plan0 r B w hw h hB h1 h2 h3 h4 p0
          · exact check_no_plan8 r B w hw h hB h1 h2 h3 h4 p0 p1
          · rw [decide_eq_true p0, decide_eq_true p1] at hr
            cases hr
theorem check_any (r : Fl.R) (B : Nat) (w : World) (hw : Fl.Wf r) (h : Fl.Cls w B r.A r.f.cls) (hB : B ≤ w.heap.size) :
    Calls Tryz.prog 48 #[Fl.fv r] w fun e w' => e = .returned (.int .i64 (Fl.code r.f)) ∧ Below w.heap.size w w' := by
  unfold Fl.code
  cases hr : Fl.right r.f with
  | true => exact check_yes r B w hw h hB hr
  | false => exact check_no r B w hw h hB hr
end Go.Proofs.YtmcekicaigbccaaGreat
