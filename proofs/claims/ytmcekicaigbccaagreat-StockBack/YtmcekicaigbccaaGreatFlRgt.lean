/- The document's Right. -/
import Derived.Test.YtmcekicaigbccaaGreatFlRLvl
namespace Go.Proofs.YtmcekicaigbccaaGreat
open Go.RowKit
set_option linter.unusedVariables false

namespace Fl
theorem right_eq (f : F) : right f = (Cd.carrier f.car && inI f.num 1 9999 && Cd.city f.frm && Cd.city f.to && !decide (f.frm = f.to) && inI f.days 1 127 && inI f.dep 0 1439 && inI f.arr 0 1439 && inI (f.cls.length : Int) 1 6 && inI f.plan 0 7 && (List.range f.cls.length).all (cOk f.cls)) := by
  have e1 : ∀ x : Int, Dt.isMin x = inI x 0 1439 := fun x => by
    unfold Dt.isMin inI
    rw [Bool.eq_iff_iff]; simp; omega
  have e2 : (decide (1 ≤ f.cls.length) && decide (f.cls.length ≤ 6)) = inI (f.cls.length : Int) 1 6 := by
    unfold inI
    rw [Bool.eq_iff_iff]; simp; omega
  have e3 : (decide (0 ≤ f.plan) && decide (f.plan < 8)) = inI f.plan 0 7 := by
    unfold inI
    rw [Bool.eq_iff_iff]; simp; omega
  unfold right keyOk routeOk timesOk clsOk planOk
  rw [e1, e1, e2, e3]
  rw [Bool.eq_iff_iff]
  simp only [inI, Bool.and_eq_true, decide_eq_true_eq, Bool.not_eq_true', decide_eq_false_iff_not, ne_eq]
  constructor
  · rintro ⟨⟨⟨⟨⟨⟨a, b⟩, c⟩, ⟨d, e⟩, f⟩, ⟨⟨g, h⟩, i⟩, j⟩, k, l⟩, m⟩
    exact ⟨⟨⟨⟨⟨⟨⟨⟨⟨⟨a, b, c⟩, d⟩, e⟩, f⟩, g, h⟩, i⟩, j⟩, k⟩, m⟩, l⟩
  · rintro ⟨⟨⟨⟨⟨⟨⟨⟨⟨⟨a, b, c⟩, d⟩, e⟩, f⟩, g, h⟩, i⟩, j⟩, k⟩, m⟩, l⟩
    exact ⟨⟨⟨⟨⟨⟨a, b⟩, c⟩, ⟨d, e⟩, f⟩, ⟨⟨g, h⟩, i⟩, j⟩, k, l⟩, m⟩
theorem in_of {n : Nat} {a b : Int} (h : inI (n : Int) a b = true) : a ≤ n ∧ (n : Int) ≤ b := by simpa [inI] using h
theorem all_range_no {n k : Nat} {p : Nat → Bool} (h : k < n) (hp : p k = false) : (List.range n).all p = false := by
  rw [List.all_eq_false]
  exact ⟨k, by simpa using h, by simp [hp]⟩
end Fl
set_option maxHeartbeats 2000000 in
set_option maxRecDepth 20000 in
theorem rright_any (r : Fl.R) (B : Nat) (w : World) (hw : Fl.Wf r) (h : Fl.Cls w B r.A r.f.cls) (hB : B ≤ w.heap.size) :
    Calls Tryz.prog 52 #[Fl.fv r] w fun e w' => e = .returned (.bool (Fl.right r.f)) ∧ Below w.heap.size w w' := by
  have hs1 := hw.car
  have hs2 := hw.frm
  have hs3 := hw.to
  have hd0 := hw.d0
  have hd1 := hw.d1
  have hl := hw.l
  have HQ := Lib.hid (Fl.right_eq r.f)
  have HC := Lib.hid h
  clear hw h
  obtain ⟨w1, ew1⟩ : ∃ x, x = w.alloc (.cells (Fl.enc r).toArray 62) := ⟨_, rfl⟩
  have hb1 : Below w.heap.size w w1 := by rw [ew1]; exact (Below.refl _ _).alloc (Nat.le_refl _) _
  have hz1 : w.heap.size < w1.heap.size := by rw [ew1]; simp
  have K1 : Rw.Blk w1 w.heap.size 62 (Fl.enc r) := by rw [ew1]; exact heap_alloc_new w _
  obtain ⟨⟨car, num, frm, to, days, dep, arr, cls, plan⟩, A, cap⟩ := r
  unfold Fl.fv
  unfold Fl.enc at ew1 K1
  simp only at HQ HC hs1 hs2 hs3 hd0 hd1 hl ew1 K1 ⊢
  have hbe := hb1
  rw [ew1] at hbe
  generalize Fl.right _ = q at *
  cases hc1 : Cd.carrier car with
  | false =>
    have HF : Hid (q = false) := show _ = _ by rw [HQ.out]; simp [*]
    clear HQ
    
    go_enter Tryz.func52, Tryz.ntmps52
    go_wp2_with (first
      | (go_at_call 78; refine (rcarrier_any _ _ hs1).mono ?_; rintro e w' ⟨rfl, rfl⟩)
      | (go_at_call 80; refine (rcity_any _ _ (by first | exact hs2 | exact hs3)).mono ?_; rintro e w' ⟨rfl, rfl⟩)
      | (go_at_call 79; refine (in_any _ _ _ _).mono ?_; rintro e w' ⟨rfl, rfl⟩))
    
    go_ret
    exact ⟨Cd.ret_bool HF.out.symm, hbe⟩
  | true =>
    cases hc2 : Fl.inI num 1 9999 with
    | false =>
      have HF : Hid (q = false) := show _ = _ by rw [HQ.out]; simp [*]
      clear HQ
      
      go_enter Tryz.func52, Tryz.ntmps52
      go_wp2_with (first
        | (go_at_call 78; refine (rcarrier_any _ _ hs1).mono ?_; rintro e w' ⟨rfl, rfl⟩)
        | (go_at_call 80; refine (rcity_any _ _ (by first | exact hs2 | exact hs3)).mono ?_; rintro e w' ⟨rfl, rfl⟩)
        | (go_at_call 79; refine (in_any _ _ _ _).mono ?_; rintro e w' ⟨rfl, rfl⟩))
      
      go_ret
      exact ⟨Cd.ret_bool HF.out.symm, hbe⟩
    | true =>
      cases hc3 : Cd.city frm with
      | false =>
        have HF : Hid (q = false) := show _ = _ by rw [HQ.out]; simp [*]
        clear HQ
        
        go_enter Tryz.func52, Tryz.ntmps52
        go_wp2_with (first
          | (go_at_call 78; refine (rcarrier_any _ _ hs1).mono ?_; rintro e w' ⟨rfl, rfl⟩)
          | (go_at_call 80; refine (rcity_any _ _ (by first | exact hs2 | exact hs3)).mono ?_; rintro e w' ⟨rfl, rfl⟩)
          | (go_at_call 79; refine (in_any _ _ _ _).mono ?_; rintro e w' ⟨rfl, rfl⟩))
        
        go_ret
        exact ⟨Cd.ret_bool HF.out.symm, hbe⟩
      | true =>
        cases hc4 : Cd.city to with
        | false =>
          have HF : Hid (q = false) := show _ = _ by rw [HQ.out]; simp [*]
          clear HQ
          
          go_enter Tryz.func52, Tryz.ntmps52
          go_wp2_with (first
            | (go_at_call 78; refine (rcarrier_any _ _ hs1).mono ?_; rintro e w' ⟨rfl, rfl⟩)
            | (go_at_call 80; refine (rcity_any _ _ (by first | exact hs2 | exact hs3)).mono ?_; rintro e w' ⟨rfl, rfl⟩)
            | (go_at_call 79; refine (in_any _ _ _ _).mono ?_; rintro e w' ⟨rfl, rfl⟩))
          
          go_ret
          exact ⟨Cd.ret_bool HF.out.symm, hbe⟩
        | true =>
          by_cases he : frm = to
          · have s1 := Fl.str_eq he
            have HF : Hid (q = false) := show _ = _ by rw [HQ.out]; simp [he]
            clear HQ he
            go_enter Tryz.func52, Tryz.ntmps52
            go_wp2_with (first
              | (go_at_call 78; refine (rcarrier_any _ _ hs1).mono ?_; rintro e w' ⟨rfl, rfl⟩)
              | (go_at_call 80; refine (rcity_any _ _ (by first | exact hs2 | exact hs3)).mono ?_; rintro e w' ⟨rfl, rfl⟩)
              | (go_at_call 79; refine (in_any _ _ _ _).mono ?_; rintro e w' ⟨rfl, rfl⟩))
            
            go_ret
            exact ⟨Cd.ret_bool HF.out.symm, hbe⟩
          · have s1 := Fl.str_ne he
            have HE := Lib.hid he
            clear he
            cases hc6 : Fl.inI days 1 127 with
            | false =>
              have HF : Hid (q = false) := show _ = _ by rw [HQ.out]; simp [*]
              clear HQ
              
              go_enter Tryz.func52, Tryz.ntmps52
              go_wp2_with (first
                | (go_at_call 78; refine (rcarrier_any _ _ hs1).mono ?_; rintro e w' ⟨rfl, rfl⟩)
                | (go_at_call 80; refine (rcity_any _ _ (by first | exact hs2 | exact hs3)).mono ?_; rintro e w' ⟨rfl, rfl⟩)
                | (go_at_call 79; refine (in_any _ _ _ _).mono ?_; rintro e w' ⟨rfl, rfl⟩))
              
              go_ret
              exact ⟨Cd.ret_bool HF.out.symm, hbe⟩
            | true =>
              cases hc7 : Fl.inI dep 0 1439 with
              | false =>
                have HF : Hid (q = false) := show _ = _ by rw [HQ.out]; simp [*]
                clear HQ
                
                go_enter Tryz.func52, Tryz.ntmps52
                go_wp2_with (first
                  | (go_at_call 78; refine (rcarrier_any _ _ hs1).mono ?_; rintro e w' ⟨rfl, rfl⟩)
                  | (go_at_call 80; refine (rcity_any _ _ (by first | exact hs2 | exact hs3)).mono ?_; rintro e w' ⟨rfl, rfl⟩)
                  | (go_at_call 79; refine (in_any _ _ _ _).mono ?_; rintro e w' ⟨rfl, rfl⟩))
                
                go_ret
                exact ⟨Cd.ret_bool HF.out.symm, hbe⟩
              | true =>
                cases hc8 : Fl.inI arr 0 1439 with
                | false =>
                  have HF : Hid (q = false) := show _ = _ by rw [HQ.out]; simp [*]
                  clear HQ
                  
                  go_enter Tryz.func52, Tryz.ntmps52
                  go_wp2_with (first
                    | (go_at_call 78; refine (rcarrier_any _ _ hs1).mono ?_; rintro e w' ⟨rfl, rfl⟩)
                    | (go_at_call 80; refine (rcity_any _ _ (by first | exact hs2 | exact hs3)).mono ?_; rintro e w' ⟨rfl, rfl⟩)
                    | (go_at_call 79; refine (in_any _ _ _ _).mono ?_; rintro e w' ⟨rfl, rfl⟩))
                  
                  go_ret
                  exact ⟨Cd.ret_bool HF.out.symm, hbe⟩
                | true =>
                  cases hc9 : Fl.inI (cls.length : Int) 1 6 with
                  | false =>
                    have HF : Hid (q = false) := show _ = _ by rw [HQ.out]; simp [*]
                    clear HQ
                    
                    go_enter Tryz.func52, Tryz.ntmps52
                    go_wp2_with (first
                      | (go_at_call 78; refine (rcarrier_any _ _ hs1).mono ?_; rintro e w' ⟨rfl, rfl⟩)
                      | (go_at_call 80; refine (rcity_any _ _ (by first | exact hs2 | exact hs3)).mono ?_; rintro e w' ⟨rfl, rfl⟩)
                      | (go_at_call 79; refine (in_any _ _ _ _).mono ?_; rintro e w' ⟨rfl, rfl⟩))
                    
                    go_ret
                    exact ⟨Cd.ret_bool HF.out.symm, hbe⟩
                  | true =>
                    cases hc10 : Fl.inI plan 0 7 with
                    | false =>
                      have HF : Hid (q = false) := show _ = _ by rw [HQ.out]; simp [*]
                      clear HQ
                      
                      go_enter Tryz.func52, Tryz.ntmps52
                      go_wp2_with (first
                        | (go_at_call 78; refine (rcarrier_any _ _ hs1).mono ?_; rintro e w' ⟨rfl, rfl⟩)
                        | (go_at_call 80; refine (rcity_any _ _ (by first | exact hs2 | exact hs3)).mono ?_; rintro e w' ⟨rfl, rfl⟩)
                        | (go_at_call 79; refine (in_any _ _ _ _).mono ?_; rintro e w' ⟨rfl, rfl⟩))
                      
                      go_ret
                      exact ⟨Cd.ret_bool HF.out.symm, hbe⟩
                    | true =>
                      have HQ2 : Hid (q = (List.range cls.length).all (Fl.cOk cls)) := show _ = _ by rw [HQ.out]; simp [*, HE.out]
                      have hb := Fl.in_of hc9
                      clear HQ HE
                      go_enter Tryz.func52, Tryz.ntmps52
                      go_wp2_with (first
                        | (go_at_call 78; refine (rcarrier_any _ _ hs1).mono ?_; rintro e w' ⟨rfl, rfl⟩)
                        | (go_at_call 80; refine (rcity_any _ _ (by first | exact hs2 | exact hs3)).mono ?_; rintro e w' ⟨rfl, rfl⟩)
                        | (go_at_call 79; refine (in_any _ _ _ _).mono ?_; rintro e w' ⟨rfl, rfl⟩))
                      go_loopw [3] (fun i wr => ∃ k : Nat, k ≤ cls.length ∧ i = .int .i64 k ∧ Hid (∀ j, j < k → Fl.cOk cls j = true) ∧ Below w1.heap.size w1 wr) (fun i _ => cls.length - (intOf i).toNat)
                      case atStart => exact ⟨0, by omega, rfl, (fun j hj => absurd hj (by omega)), by rw [ew1]; exact Below.refl _ _⟩
                      case round =>
                        obtain ⟨wx, ewx⟩ : ∃ x, x = wr := ⟨_, rfl⟩
                        subst ewx
                        obtain ⟨k, hk, rfl, HK, hbr⟩ := hrel
                        have HBx := Lib.hid (hb1.trans (hbr.mono hb1.size))
                        have c7 : ∀ q, (wx.drewN q).cell? ⟨w.heap.size, 7, none⟩ = some (.slice A cls.length cap) := fun q => ((hbr.cell (p := ⟨w.heap.size, 7, none⟩) hz1).trans (K1.cell 7)).trans rfl
                        have c70 : wx.cell? ⟨w.heap.size, 7, none⟩ = some (.slice A cls.length cap) := c7 0
                        by_cases hlt : k < cls.length
                        · obtain ⟨b, off, rfl, hbB, hcs⟩ := HC.out.at (by omega)
                          obtain ⟨g0, g1⟩ := hcs k hlt
                          have hlow : ∀ j, (wx.drewN j).heap = wx.heap := fun _ => rfl
                          have c0 : ∀ q, (wx.drewN q).cell? ⟨b, off + k * 2, none⟩ = some (.int .u8 (Fl.lt cls k)) := fun q => (HBx.out.cell (p := ⟨b, off + k * 2, none⟩) (Nat.lt_of_lt_of_le hbB hB)).trans g0
                          have c1 : ∀ q, (wx.drewN q).cell? ⟨b, off + k * 2 + 1, none⟩ = some (.int .i64 (Fl.lv cls k)) := fun q => (HBx.out.cell (p := ⟨b, off + k * 2 + 1, none⟩) (Nat.lt_of_lt_of_le hbB hB)).trans g1
                          have HO : Hid (Fl.cOk cls k = (Cd.isL (Fl.lt cls k) && Fl.inI (Fl.lv cls k) 0 400 && (decide (k = 0) || decide (Fl.lt cls (k - 1) < Fl.lt cls k)))) := show _ = _ by simp [Fl.cOk, Fl.inI, Bool.and_assoc]
                          have HNo : Hid (Fl.cOk cls k = false → q = false) := fun e => by rw [HQ2.out]; exact Fl.all_range_no hlt e
                          have HYes : Hid (Fl.cOk cls k = true → ∀ j, j < k + 1 → Fl.cOk cls j = true) := fun e j hj => by
                            rcases Nat.lt_or_ge j k with h | h
                            · exact HK.out j h
                            · rw [show j = k by omega]; exact e
                          clear g0 g1 hlow
                          cases hL : Cd.isL (Fl.lt cls k) with
                          | false =>
                            have HF := Lib.hid (HNo.out (by rw [HO.out, hL]; rfl))
                            clear HO HNo HYes hcs
                            go_wp2
                            go_quiet ((first | (go_at_call 81; exact Calls.quiet_of_same ((rclass_any _ _).mono (fun _ _ h => ⟨h.1, h.2.symm⟩))) | (go_at_call 79; exact Calls.quiet_of_same ((in_any _ _ _ _).mono (fun _ _ h => ⟨h.1, h.2.symm⟩)))))
                            go_wp2
                            go_ret
                            exact ⟨Cd.ret_bool HF.out.symm, Fl.below_drewN HBx.out _⟩
                          | true =>
                            cases hI : Fl.inI (Fl.lv cls k) 0 400 with
                            | false =>
                              have HF := Lib.hid (HNo.out (by rw [HO.out, hL, hI]; rfl))
                              clear HO HNo HYes hcs
                              go_wp2
                              go_quiet ((first | (go_at_call 81; exact Calls.quiet_of_same ((rclass_any _ _).mono (fun _ _ h => ⟨h.1, h.2.symm⟩))) | (go_at_call 79; exact Calls.quiet_of_same ((in_any _ _ _ _).mono (fun _ _ h => ⟨h.1, h.2.symm⟩)))))
                              go_wp2
                              go_ret
                              exact ⟨Cd.ret_bool HF.out.symm, Fl.below_drewN HBx.out _⟩
                            | true =>
                              have HO2 := Lib.hid (show Fl.cOk cls k = (decide (k = 0) || decide (Fl.lt cls (k - 1) < Fl.lt cls k)) by rw [HO.out, hL, hI]; rfl)
                              clear HO
                              by_cases h0 : k = 0
                              · have HN := Lib.hid (HYes.out (by rw [HO2.out, decide_eq_true h0]; rfl))
                                have hd : decide (0 < (k : Int)) = false := by simp; omega
                                have hd2 : decide (0 < k) = false := by simp; omega
                                clear HO2 HNo HYes hcs h0
                                go_wp2
                                go_quiet ((first | (go_at_call 81; exact Calls.quiet_of_same ((rclass_any _ _).mono (fun _ _ h => ⟨h.1, h.2.symm⟩))) | (go_at_call 79; exact Calls.quiet_of_same ((in_any _ _ _ _).mono (fun _ _ h => ⟨h.1, h.2.symm⟩)))))
                                go_wp2
                                go_roundw
                                case rel => exact ⟨k + 1, by omega, by go_num, HN, Fl.below_drewN hbr _⟩
                                case measure => simp [intOf]; omega
                              · obtain ⟨m, hm⟩ : ∃ m, k - 1 = m := ⟨_, rfl⟩
                                rw [hm] at HO2
                                have hm2 : m < cls.length := by omega
                                obtain ⟨g0, _⟩ := hcs m hm2
                                have cm : ∀ q, (wx.drewN q).cell? ⟨b, off + m * 2, none⟩ = some (.int .u8 (Fl.lt cls m)) := fun q => (HBx.out.cell (p := ⟨b, off + m * 2, none⟩) (Nat.lt_of_lt_of_le hbB hB)).trans g0
                                have hd : decide (0 < (k : Int)) = true := by simp; omega
                                have hd2 : decide (0 < k) = true := by simp; omega
                                have hw : (k : Int) - 1 = (m : Int) := by omega
                                have hw2 : IntKind.i64.wrap (m : Int) = (m : Int) := IntWalk.i64_in _ (by omega)
                                have HO3 := Lib.hid (show Fl.cOk cls k = decide (Fl.lt cls m < Fl.lt cls k) by rw [HO2.out, decide_eq_false h0]; rfl)
                                clear HO2 hm h0 g0 hcs
                                by_cases h5 : Fl.lt cls m < Fl.lt cls k
                                · have HN := Lib.hid (HYes.out (by rw [HO3.out, decide_eq_true h5]))
                                  have hd3 : decide (Fl.lt cls k ≤ Fl.lt cls m) = false := by simp; omega
                                  clear HO3 HNo HYes
                                  go_wp2
                                  go_quiet ((first | (go_at_call 81; exact Calls.quiet_of_same ((rclass_any _ _).mono (fun _ _ h => ⟨h.1, h.2.symm⟩))) | (go_at_call 79; exact Calls.quiet_of_same ((in_any _ _ _ _).mono (fun _ _ h => ⟨h.1, h.2.symm⟩)))))
                                  go_wp2
                                  go_roundw
                                  case rel => exact ⟨k + 1, by omega, by go_num, HN, Fl.below_drewN hbr _⟩
                                  case measure => simp [intOf]; omega
                                · have HF := Lib.hid (HNo.out (by rw [HO3.out, decide_eq_false h5]))
                                  have hd3 : decide (Fl.lt cls k ≤ Fl.lt cls m) = true := by simp; omega
                                  clear HO3 HNo HYes
                                  go_wp2
                                  go_quiet ((first | (go_at_call 81; exact Calls.quiet_of_same ((rclass_any _ _).mono (fun _ _ h => ⟨h.1, h.2.symm⟩))) | (go_at_call 79; exact Calls.quiet_of_same ((in_any _ _ _ _).mono (fun _ _ h => ⟨h.1, h.2.symm⟩)))))
                                  go_wp2
                                  go_ret
                                  exact ⟨Cd.ret_bool HF.out.symm, Fl.below_drewN HBx.out _⟩
                        · have HF : Hid (q = true) := show _ = _ by rw [HQ2.out, List.all_eq_true]; intro j hj; exact HK.out j (by rw [List.mem_range] at hj; omega)
                          go_wp2
                          go_ret
                          exact ⟨Cd.ret_bool HF.out.symm, HBx.out⟩
end Go.Proofs.YtmcekicaigbccaaGreat
