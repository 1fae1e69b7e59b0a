/- Between where at most one comes; Links where none reaches another. -/
import Derived.Test.YtmcekicaigbccaaGreatFlDps
namespace Go.Proofs.YtmcekicaigbccaaGreat
open Go.RowKit
set_option linter.unusedVariables false

namespace Fl
def cB (a b : ByteArray) (r : R) : Bool := seq r.f.frm a && seq r.f.to b
def cF (a : ByteArray) (r : R) : Bool := seq r.f.frm a && decide (r.f.dep ≤ r.f.arr)
def cS (b : ByteArray) (r : R) : Bool := seq r.f.to b
theorem str2 (w : World) (a b : ByteArray) : ((w.alloc (.cells #[.string a] 9)).alloc (.cells #[.string b] 9)).heap.size = w.heap.size + 2 := by simp
theorem str2c {w w' : World} {a b : ByteArray} (hb : Below ((w.alloc (.cells #[.string a] 9)).alloc (.cells #[.string b] 9)).heap.size ((w.alloc (.cells #[.string a] 9)).alloc (.cells #[.string b] 9)) w') :
    w'.cell? ⟨w.heap.size, 0, none⟩ = some (.string a) ∧ w'.cell? ⟨w.heap.size + 1, 0, none⟩ = some (.string b) ∧ w.heap.size + 1 < w'.heap.size := by
  have hs := hb.size
  rw [str2] at hs
  have z1 : (w.alloc (.cells #[.string a] 9)).heap.size = w.heap.size + 1 := by simp
  have k1 : Rw.Blk (w.alloc (.cells #[.string a] 9)) w.heap.size 9 [.string a] := heap_alloc_new w _
  have k2 : Rw.Blk ((w.alloc (.cells #[.string a] 9)).alloc (.cells #[.string b] 9)) (w.heap.size + 1) 9 [.string b] := by
    have := heap_alloc_new (w.alloc (.cells #[.string a] 9)) (.cells #[.string b] 9)
    rw [z1] at this
    exact this
  have k3 := k1.below' ((Below.refl (w.alloc (.cells #[.string a] 9)).heap.size (w.alloc (.cells #[.string a] 9))).alloc (Nat.le_refl _) (.cells #[.string b] 9))
  exact ⟨(k3.below' hb).cell 0, (k2.below' hb).cell 0, by omega⟩
end Fl
set_option maxHeartbeats 1000000 in
set_option maxRecDepth 20000 in
theorem between_one (base p : Nat) (rs : List Fl.R) (day : Int) (a b : ByteArray) (w : World) (h : Fl.Tab w base p rs) (hl : rs.length ≤ 64) (hcl : ∀ r ∈ rs, 0 < r.f.cls.length ∧ r.f.cls.length ≤ 3000) (h1 : (Fl.dps rs day (Fl.cB a b)).length ≤ 1) :
    Calls Tryz.prog 36 #[.pointer (some ⟨p, 0, none⟩), .int .i64 day, .string a, .string b] w fun e w' => Fl.CopiesIs w ((Fl.dps rs day (Fl.cB a b)).map Fl.R.f) e w' := by
  obtain ⟨w1, ew1⟩ : ∃ x, x = (w.alloc (.cells #[.string a] 9)).alloc (.cells #[.string b] 9) := ⟨_, rfl⟩
  have hb1 : Below w.heap.size w w1 := by
    rw [ew1]
    exact ((Below.refl _ _).alloc (Nat.le_refl _) _).alloc (by simp) _
  have hcell : ∀ W, Below w1.heap.size w1 W → W.cell? ⟨w.heap.size, 0, none⟩ = some (.string a) ∧ W.cell? ⟨w.heap.size + 1, 0, none⟩ = some (.string b) ∧ w.heap.size + 1 < W.heap.size := fun W hb => by
    rw [ew1] at hb
    exact Fl.str2c hb
  have HD := Lib.hid (depB_one base p rs day w.heap.size (w.heap.size + 1) (Fl.cB a b) w1 (h.kept hb1) hl h1 (fun r hr W hb => by
    obtain ⟨k1, k2, k3⟩ := hcell W hb
    exact between1_any r w.heap.size (w.heap.size + 1) a b W k1 k2 (by omega) k3))
  have HCL : Hid (∀ r ∈ Fl.dps rs day (Fl.cB a b), 0 < r.f.cls.length ∧ r.f.cls.length ≤ 3000) := fun r hr => hcl r (List.mem_filter.1 hr).1
  have HB1 := Lib.hid hb1
  have H1 := Lib.hid h1
  clear h hcl h1 hcell hb1
  rw [ew1] at HD HB1
  clear ew1
  go_enter Tryz.func36, Tryz.ntmps36
  go_wp2_with (first
    | (go_at_call 57; refine HD.out.mono ?_; rintro e w2 ⟨v, rfl, hO, hb2⟩; obtain ⟨A, cap, rfl, hF⟩ := hO.fls; have HF := Lib.hid hF; have HB2 := Lib.hid (HB1.out.trans (hb2.mono HB1.out.size)); clear hO hF)
    | (go_at_call 49; refine (copies_any A _ cap w2.heap.size w2 HF.out (Nat.le_refl _) (by have := H1.out; omega) HCL.out).mono ?_; rintro e w3 ⟨A3, c3, rs3, rfl, hm3, ho3, hb3⟩))
  go_ret
  exact ⟨A3, c3, rs3, by rw [List.length_map]; rfl, hm3, ho3.low HB2.out.size, HB2.out.trans (hb3.mono HB2.out.size)⟩
theorem reaches_far (r s : Fl.R) (w : World) (h : Fl.seq r.f.to s.f.frm = false) : Calls Tryz.prog 62 #[Fl.fv r, Fl.fv s] w fun e w' => e = .returned (.bool false) ∧ Below w.heap.size w w' := by
  obtain ⟨⟨car, num, frm, to, days, dep, arr, cls, plan⟩, A, cap⟩ := r
  obtain ⟨⟨car2, num2, frm2, to2, days2, dep2, arr2, cls2, plan2⟩, A2, cap2⟩ := s
  unfold Fl.fv
  simp only at h ⊢
  have s1 : (to.toList == frm2.toList) = false := h
  have hb1 := (Below.refl w.heap.size w).alloc (Nat.le_refl _) (.cells #[.string car, .int .i64 num, .string frm, .string to, .int .u8 days, .int .i64 dep, .int .i64 arr, .slice A cls.length cap, .int .i64 plan] 62)
  have hbe := hb1.alloc (by simp) (.cells #[.string car2, .int .i64 num2, .string frm2, .string to2, .int .u8 days2, .int .i64 dep2, .int .i64 arr2, .slice A2 cls2.length cap2, .int .i64 plan2] 62)
  clear h hb1
  go_enter Tryz.func62, Tryz.ntmps62
  go_wp2
  go_ret
  exact ⟨rfl, hbe⟩
namespace Fl
theorem str2a {w : World} {a b : ByteArray} : ((w.alloc (.cells #[.string a] 9)).alloc (.cells #[.string b] 9)).cell? ⟨w.heap.size, 0, none⟩ = some (.string a) ∧ ((w.alloc (.cells #[.string a] 9)).alloc (.cells #[.string b] 9)).cell? ⟨w.heap.size + 1, 0, none⟩ = some (.string b) := by
  obtain ⟨h1, h2, _⟩ := str2c (w := w) (a := a) (b := b) (Below.refl _ _)
  exact ⟨h1, h2⟩
end Fl
set_option maxHeartbeats 2000000 in
set_option maxRecDepth 20000 in
theorem links_none (base p : Nat) (rs : List Fl.R) (day : Int) (a b : ByteArray) (w : World) (h : Fl.Tab w base p rs) (hl : rs.length ≤ 64) (hab : a ≠ b) (h1 : (Fl.dps rs day (Fl.cF a)).length ≤ 1) (h2 : (Fl.dps rs day (Fl.cS b)).length ≤ 1)
    (hno : ∀ r ∈ Fl.dps rs day (Fl.cF a), ∀ s ∈ Fl.dps rs day (Fl.cS b), Fl.seq r.f.to s.f.frm = false) :
    Calls Tryz.prog 38 #[.pointer (some ⟨p, 0, none⟩), .int .i64 day, .string a, .string b] w fun e w' => e = .returned (.slice none 0 0) ∧ Below w.heap.size w w' := by
  have s1 := Fl.str_ne hab
  obtain ⟨w1, ew1⟩ : ∃ x, x = (w.alloc (.cells #[.string a] 9)).alloc (.cells #[.string b] 9) := ⟨_, rfl⟩
  have hb1 : Below w.heap.size w w1 := by
    rw [ew1]
    exact ((Below.refl _ _).alloc (Nat.le_refl _) _).alloc (by simp) _
  have hcell : ∀ W, Below w1.heap.size w1 W → W.cell? ⟨w.heap.size, 0, none⟩ = some (.string a) ∧ W.cell? ⟨w.heap.size + 1, 0, none⟩ = some (.string b) ∧ w.heap.size + 1 < W.heap.size := fun W hb => by
    rw [ew1] at hb
    exact Fl.str2c hb
  have HD1 := Lib.hid (depF_one base p rs day w.heap.size (Fl.cF a) w1 (h.kept hb1) hl h1 (fun r hr W hb => by
    obtain ⟨k1, k2, k3⟩ := hcell W hb
    exact links1_any r w.heap.size a W k1 (by omega)))
  have HD2 := Lib.hid (fun W (hb : Below w1.heap.size w1 W) => depS_one base p rs day (w.heap.size + 1) (Fl.cS b) W ((h.kept hb1).kept hb) hl h2 (fun r hr W' hb' => by
    obtain ⟨k1, k2, k3⟩ := hcell W' (hb.trans (hb'.mono hb.size))
    exact links2_any r (w.heap.size + 1) b W' k2 k3))
  have HNo := Lib.hid hno
  have HB1 := Lib.hid hb1
  have HL1 := Lib.hid h1
  have HL2 := Lib.hid h2
  clear h h1 h2 hcell hb1 hno hab
  rw [ew1] at HD1 HD2 HB1
  obtain ⟨l6, l7⟩ := Fl.str2a (w := w) (a := a) (b := b)
  clear ew1
  go_enter Tryz.func38, Tryz.ntmps38
  go_wp2_with (first
    | (go_at_call 57; have hgd := HBq; refine (HD2.out _ HBq.out).mono ?_; rintro e w3 ⟨v, rfl, hO, hb3⟩; obtain ⟨A3, c3, rfl, hF3⟩ := hO.fls; have HF3 := Lib.hid hF3; have HB3 := Lib.hid (HB2.out.trans (hb3.mono HB2.out.size)); have HF23 := Lib.hid (HF.out.below hb3 (Nat.le_refl _)); clear hO hF3)
    | (go_at_call 57; refine HD1.out.mono ?_; rintro e w2 ⟨v, rfl, hO, hb2⟩; obtain ⟨A, cap, rfl, hF⟩ := hO.fls; have HF := Lib.hid hF; have HB2 := Lib.hid (HB1.out.trans (hb2.mono HB1.out.size)); have HBq := Lib.hid hb2; clear hO hF))
  have H2w := hb2.size
  obtain ⟨d1, hd1⟩ : ∃ d, d = Fl.dps rs day (Fl.cF a) := ⟨_, rfl⟩
  obtain ⟨d2, hd2⟩ : ∃ d, d = Fl.dps rs day (Fl.cS b) := ⟨_, rfl⟩
  rw [← hd1] at HF HF23 HNo HL1 ⊢
  rw [← hd2] at HF3 HNo HL2 ⊢
  have hl1 := HL1.out
  have hl2 := HL2.out
  have h23 := hb3.size
  clear hd1 hd2 HF hb2 hb3 HB1 HBq HB2 HD1 HD2 l6 l7
  go_loopw [11, 29] (fun o i wr => ∃ (k : Nat), k ≤ d1.length ∧ i = .int .i64 k ∧ o = .slice none 0 0 ∧ Hid (Below w3.heap.size w3 wr)) (fun _ i _ => d1.length - (intOf i).toNat)
  case atStart => exact ⟨0, by omega, rfl, rfl, Below.refl _ _⟩
  case round =>
    obtain ⟨wx, ewx⟩ : ∃ x, x = wr := ⟨_, rfl⟩
    subst ewx
    obtain ⟨k, hk, rfl, rfl, HBr⟩ := hrel
    have hbr := HBr.out.size
    by_cases hlt : k < d1.length
    · obtain ⟨b1, off1, hA1, hbB1, hrow1⟩ := HF23.out.row (by omega)
      have HR1 : Hid (wx.rangeAt b1 (off1 + k * 9) (Fl.enc d1[k])) := fun j v hv => (HBr.out.cell (p := ⟨b1, _, none⟩) (show b1 < w3.heap.size by omega)).trans (hrow1 k hlt j v hv)
      have HN1 := Lib.hid (HNo.out d1[k] (List.getElem_mem hlt))
      generalize d1[k] = r at *
      rw [hA1]
      clear hrow1
      go_wp2_with (first
        | (refine wpList_load_mid rfl 62 _ rfl b1 (off1 + k * 9) rfl (Fl.enc r) _ HR1.out Fl.uF Fl.rF Fl.iF ?_)
        | (refine Rw.wpList_alloc rfl 62 rfl (Fl.enc Fl.r0) Fl.zF ?_; intro w4 K4 hb4 hz4; clear hz4)
        | (refine Rw.wpList_store_whole rfl 62 _ _ rfl wx.heap.size rfl (Fl.enc r) rfl _ _ K4 Fl.iF rfl (Fl.enc_one _) ?_; intro w5 K5 f5; have HB5 : Hid (Below wx.heap.size wx w5) := hb4.trans (f5.below hb4.size (fun k hk => by have : k = wx.heap.size := hk; omega)); have HK5 := Lib.hid K5; clear K4 K5))
      have HB35 := Lib.hid (HBr.out.trans (HB5.out.mono hbr))
      have hs35 := HB35.out.size
      clear hb4 f5
      go_loopw [11, 35] (fun o i wr => ∃ (m : Nat), m ≤ d2.length ∧ i = .int .i64 m ∧ o = .slice none 0 0 ∧ Hid (Below w5.heap.size w5 wr)) (fun _ i _ => d2.length - (intOf i).toNat)
      case atStart => exact ⟨0, by omega, rfl, rfl, Below.refl _ _⟩
      case round =>
        obtain ⟨wy, ewy⟩ : ∃ x, x = wr := ⟨_, rfl⟩
        subst ewy
        obtain ⟨m, hm, rfl, rfl, HBy⟩ := hrel
        have hby := HBy.out.size
        by_cases hlt2 : m < d2.length
        · obtain ⟨b2, off2, hA2, hbB2, hrow2⟩ := HF3.out.row (by omega)
          have HR2 : Hid (wy.rangeAt b2 (off2 + m * 9) (Fl.enc d2[m])) := fun j v hv => (HBy.out.cell (p := ⟨b2, _, none⟩) (show b2 < w5.heap.size by omega)).trans ((HB35.out.cell (p := ⟨b2, _, none⟩) (show b2 < w3.heap.size by omega)).trans (hrow2 m hlt2 j v hv))
          have HN2 := Lib.hid (HN1.out d2[m] (List.getElem_mem hlt2))
          generalize d2[m] = s at *
          have HKy := Lib.hid (HK5.out.below' HBy.out)
          have hxy : wx.heap.size < wy.heap.size := HKy.out.lt
          rw [hA2]
          clear hrow2
          go_wp2_with (first
            | (refine wpList_load_mid rfl 62 _ rfl b2 (off2 + m * 9) rfl (Fl.enc s) _ HR2.out Fl.uF Fl.rF Fl.iF ?_)
            | (refine Rw.wpList_alloc rfl 62 rfl (Fl.enc Fl.r0) Fl.zF ?_; intro w6 K6 hb6 hz6; clear hz6)
            | (refine Rw.wpList_store_whole rfl 62 _ _ rfl wy.heap.size rfl (Fl.enc s) rfl _ _ K6 Fl.iF rfl (Fl.enc_one _) ?_; intro w7 K7 f7; have HB7 : Hid (Below wy.heap.size wy w7) := hb6.trans (f7.below hb6.size (fun k hk => by have : k = wy.heap.size := hk; omega)); have HK7 := Lib.hid K7; have HKx7 := Lib.hid (HKy.out.below' HB7.out); clear K6 K7)
            | (refine wpList_load_mid rfl 62 _ rfl wx.heap.size 0 rfl (Fl.enc r) _ HKx7.out.range Fl.uF Fl.rF Fl.iF ?_)
            | (refine wpList_load_mid rfl 62 _ rfl wy.heap.size 0 rfl (Fl.enc s) _ HK7.out.range Fl.uF Fl.rF Fl.iF ?_)
            | (go_at_call 62; refine (reaches_far r s _ HN2.out).mono ?_; rintro e w8 ⟨rfl, hb8⟩; have HB8 := Lib.hid ((HBy.out.trans (HB7.out.mono hby)).trans (hb8.mono (Nat.le_trans hby HB7.out.size)))))
          go_roundw
          case rel => exact ⟨m + 1, by omega, by go_num, rfl, HB8.out⟩
          case measure => simp [intOf]; omega
        · go_wp2
          go_roundw
          case rel => exact ⟨k + 1, by omega, by go_num, rfl, HB35.out.trans (HBy.out.mono hs35)⟩
          case measure => simp [intOf]; omega
    · go_wp2
      go_ret
      exact ⟨rfl, HB3.out.trans (HBr.out.mono (Nat.le_trans (Nat.le_trans (by simp; omega) H2w) h23))⟩
end Go.Proofs.YtmcekicaigbccaaGreat
