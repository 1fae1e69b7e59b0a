/- The document's Flies and Level. -/
import Derived.Test.YtmcekicaigbccaaGreatFlLvl
namespace Go.Proofs.YtmcekicaigbccaaGreat
open Go.RowKit Go.WideMaps
set_option linter.unusedVariables false

theorem rfind_yes (A : Option Addr) (rs : List Fl.R) (cap B : Nat) (car : ByteArray) (num : Int) (w : World) (h : Fl.Fls w B A rs) (hB : B ≤ w.heap.size) (hl : rs.length ≤ 1000000) (j : Nat) (hj : j < rs.length) (hi : Fl.isK rs[j].f car num = true) (hf : ∀ i, i < j → ∀ hi : i < rs.length, Fl.isK rs[i].f car num = false) :
    Calls Tryz.prog 46 #[.slice A rs.length cap, .agg #[.string car, .int .i64 num]] w fun e w' => e = .returned (.tuple #[Fl.fv rs[j], .bool true]) ∧ Below w.heap.size w w' := by
  refine (rfind_any A rs cap B car num w h hB hl).mono fun e w' ⟨hh, hb⟩ => ⟨?_, hb⟩
  rcases hh with ⟨j2, hj2, hi2, hf2, he⟩ | ⟨hno, he⟩
  · have : j2 = j := by
      rcases Nat.lt_trichotomy j2 j with h | h | h
      · rw [hf j2 h hj2] at hi2; cases hi2
      · exact h
      · rw [hf2 j h hj] at hi; cases hi
    subst this
    exact he
  · rw [hno _ (List.getElem_mem hj)] at hi; cases hi
theorem rfind_no (A : Option Addr) (rs : List Fl.R) (cap B : Nat) (car : ByteArray) (num : Int) (w : World) (h : Fl.Fls w B A rs) (hB : B ≤ w.heap.size) (hl : rs.length ≤ 1000000) (hno : ∀ r ∈ rs, Fl.isK r.f car num = false) :
    Calls Tryz.prog 46 #[.slice A rs.length cap, .agg #[.string car, .int .i64 num]] w fun e w' => e = .returned (.tuple #[Fl.fv Fl.r0, .bool false]) ∧ Below w.heap.size w w' := by
  refine (rfind_any A rs cap B car num w h hB hl).mono fun e w' ⟨hh, hb⟩ => ⟨?_, hb⟩
  rcases hh with ⟨j2, hj2, hi2, hf2, he⟩ | ⟨_, he⟩
  · rw [hno _ (List.getElem_mem hj2)] at hi2; cases hi2
  · exact he
namespace Fl
/-- There is a first one, or none. -/
theorem first_or (rs : List R) (car : ByteArray) (num : Int) : (∃ (j : Nat) (hj : j < rs.length), isK rs[j].f car num = true ∧ ∀ i, i < j → ∀ hi : i < rs.length, isK rs[i].f car num = false) ∨ ∀ r ∈ rs, isK r.f car num = false := by
  cases h : rs.find? (fun r => isK r.f car num) with
  | none =>
    rw [List.find?_eq_none] at h
    exact .inr fun r hr => by simpa using h r hr
  | some r =>
    rw [List.find?_eq_some_iff_getElem] at h
    obtain ⟨h1, j, hj, rfl, h2⟩ := h
    exact .inl ⟨j, hj, h1, fun i hi hi2 => by simpa using h2 i hi⟩
/-- Does the flight of a key fly on a day? -/
def flies (fs : List F) (car : ByteArray) (num day : Int) : Bool := match fs.find? (fun f => isK f car num) with
  | some f => on f day
  | none => false
theorem flies_first {rs : List R} {car : ByteArray} {num day : Int} {j : Nat} (hj : j < rs.length) (h1 : isK rs[j].f car num = true) (h2 : ∀ i, i < j → ∀ hi : i < rs.length, isK rs[i].f car num = false) : flies (rs.map R.f) car num day = on rs[j].f day := by
  unfold flies
  rw [find_at (fs := rs.map R.f) (j := j) (by simpa using hj) (by simpa using h1) (fun i hi hi2 => by simpa using h2 i hi (by simpa using hi2))]
  simp
theorem flies_non {rs : List R} {car : ByteArray} {num day : Int} (h : ∀ r ∈ rs, isK r.f car num = false) : flies (rs.map R.f) car num day = false := by
  unfold flies
  rw [find_non (fun f hf => by obtain ⟨r, hr, rfl⟩ := List.mem_map.1 hf; exact h r hr)]
end Fl
set_option maxHeartbeats 1000000 in
set_option maxRecDepth 20000 in
theorem rflies_any (A : Option Addr) (rs : List Fl.R) (cap B : Nat) (car : ByteArray) (num day : Int) (w : World) (h : Fl.Fls w B A rs) (hB : B ≤ w.heap.size) (hl : rs.length ≤ 1000000) :
    Calls Tryz.prog 45 #[.slice A rs.length cap, .agg #[.string car, .int .i64 num, .int .i64 day]] w fun e w' => e = .returned (.bool (Fl.flies (rs.map Fl.R.f) car num day)) ∧ Below w.heap.size w w' := by
  obtain ⟨w1, ew1⟩ : ∃ x, x = w.alloc (.cells #[.string car, .int .i64 num, .int .i64 day] 34) := ⟨_, rfl⟩
  have hb1 : Below w.heap.size w w1 := by rw [ew1]; exact (Below.refl _ _).alloc (Nat.le_refl _) _
  have hz1 : w.heap.size < w1.heap.size := by rw [ew1]; simp
  have K1 : Rw.Blk w1 w.heap.size 34 [.string car, .int .i64 num, .int .i64 day] := by rw [ew1]; exact heap_alloc_new w _
  have HB1 := Lib.hid hb1
  have HK1 := Lib.hid K1
  rcases Fl.first_or rs car num with ⟨j, hj, hi, hf⟩ | hno
  · have HFd := Lib.hid (rfind_yes A rs cap B car num w1 (h.below hb1 hB) (Nat.le_trans hB hb1.size) hl j hj hi hf)
    have HL := Lib.hid (Fl.flies_first (day := day) hj hi hf)
    have HW := Lib.hid (h.wf _ (List.getElem_mem hj))
    generalize Fl.flies (rs.map Fl.R.f) car num day = res at *
    generalize rs[j] = r at *
    clear hi h hl hb1 K1 hj hf
    have HFl := Lib.hid (fun w => ron_any r day w HW.out)
    rw [ew1] at HFd HB1 HK1 hz1
    rw [← HL.out] at HFl
    go_enter Tryz.func45, Tryz.ntmps45
    go_wp2_with (first
        | (go_at_call 46; refine HFd.out.mono ?_; rintro e w2 ⟨rfl, hb2⟩; have hlt2 : w.heap.size < w2.heap.size := Nat.lt_of_lt_of_le hz1 hb2.size; have HB2 := Lib.hid (HB1.out.trans (hb2.mono HB1.out.size)); have k1 : w2.cell? ⟨w.heap.size, 2, none⟩ = some (.int .i64 day) := (hb2.cell (p := ⟨w.heap.size, 2, none⟩) hz1).trans (HK1.out.cell 2))
        | (refine Rw.wpList_alloc rfl 62 rfl (Fl.enc Fl.r0) Fl.zF ?_; intro w3 K3 hb3 hz3; clear hz3)
        | (refine Rw.wpList_store_whole rfl 62 _ _ rfl w2.heap.size rfl (Fl.enc r) rfl _ _ K3 Fl.iF rfl (Fl.enc_one _) ?_; intro w4 K4 f4; obtain ⟨c0, c1, c2, c3, c4, c5, c6, c7, c8⟩ := Fl.encs K4; have hb24 : Below w2.heap.size w2 w4 := hb3.trans (f4.below hb3.size (fun k hk => by have : k = w2.heap.size := hk; omega)); have k2 : w4.cell? ⟨w.heap.size, 2, none⟩ = some (.int .i64 day) := (hb24.cell (p := ⟨w.heap.size, 2, none⟩) hlt2).trans k1; have HB4 := Lib.hid (HB2.out.trans (hb24.mono HB2.out.size)))
        | (go_at_call 64; refine (HFl.out _).mono ?_; rintro e w5 ⟨rfl, hb5⟩))
    go_ret
    exact ⟨rfl, HB4.out.trans (hb5.mono HB4.out.size)⟩
  · have HFd := Lib.hid (rfind_no A rs cap B car num w1 (h.below hb1 hB) (Nat.le_trans hB hb1.size) hl hno)
    have HL := Lib.hid (Fl.flies_non (day := day) hno)
    generalize Fl.flies (rs.map Fl.R.f) car num day = res at *
    clear h hl hb1 K1 hno
    rw [ew1] at HFd HB1 HK1 hz1
    generalize Fl.r0 = r at HFd
    go_enter Tryz.func45, Tryz.ntmps45
    go_wp2_with (first
        | (go_at_call 46; refine HFd.out.mono ?_; rintro e w2 ⟨rfl, hb2⟩; have HB2 := Lib.hid (HB1.out.trans (hb2.mono HB1.out.size)))
        | (refine Rw.wpList_alloc rfl 62 rfl (Fl.enc Fl.r0) Fl.zF ?_; intro w3 K3 hb3 hz3; clear hz3)
        | (refine Rw.wpList_store_whole rfl 62 _ _ rfl w2.heap.size rfl (Fl.enc r) rfl _ _ K3 Fl.iF rfl (Fl.enc_one _) ?_; intro w4 K4 f4; obtain ⟨c0, c1, c2, c3, c4, c5, c6, c7, c8⟩ := Fl.encs K4; have hb24 : Below w2.heap.size w2 w4 := hb3.trans (f4.below hb3.size (fun k hk => by have : k = w2.heap.size := hk; omega)); have HB4 := Lib.hid (HB2.out.trans (hb24.mono HB2.out.size)))
)
    go_ret
    exact ⟨Cd.ret_bool HL.out.symm, HB4.out⟩
set_option maxHeartbeats 1000000 in
set_option maxRecDepth 20000 in
theorem rlevel_any (A : Option Addr) (rs : List Fl.R) (cap B : Nat) (car : ByteArray) (num day c : Int) (w : World) (h : Fl.Fls w B A rs) (hB : B ≤ w.heap.size) (hl : rs.length ≤ 1000000) :
    Calls Tryz.prog 21 #[.slice A rs.length cap, .agg #[.string car, .int .i64 num, .int .i64 day], .int .u8 c] w fun e w' => e = .returned (.tuple #[.int .i64 (Fl.level (rs.map Fl.R.f) car num day c).1, .int .i64 (Fl.level (rs.map Fl.R.f) car num day c).2]) ∧ Below w.heap.size w w' := by
  obtain ⟨w1, ew1⟩ : ∃ x, x = w.alloc (.cells #[.string car, .int .i64 num, .int .i64 day] 34) := ⟨_, rfl⟩
  have hb1 : Below w.heap.size w w1 := by rw [ew1]; exact (Below.refl _ _).alloc (Nat.le_refl _) _
  have hz1 : w.heap.size < w1.heap.size := by rw [ew1]; simp
  have K1 : Rw.Blk w1 w.heap.size 34 [.string car, .int .i64 num, .int .i64 day] := by rw [ew1]; exact heap_alloc_new w _
  have HB1 := Lib.hid hb1
  have HK1 := Lib.hid K1
  have HFl := Lib.hid (rflies_any A rs cap B car num day w1 (h.below hb1 hB) (Nat.le_trans hB hb1.size) hl)
  have k10 := (K1.cell 0)
  have k11 := (K1.cell 1)
  have k12 := (K1.cell 2)
  rcases Fl.first_or rs car num with ⟨j, hj, hi, hf⟩ | hno
  · have HFd := Lib.hid (fun W (hb : Below w.heap.size w W) => rfind_yes A rs cap B car num W (h.below hb hB) (Nat.le_trans hB hb.size) hl j hj hi hf)
    have HL := Lib.hid (Fl.level_first (day := day) (c := c) hj hi hf)
    have HF2 := Lib.hid (Fl.flies_first (day := day) hj hi hf)
    have HW := Lib.hid (h.wf _ (List.getElem_mem hj))
    have HC := Lib.hid (h.cls _ (List.getElem_mem hj))
    generalize Fl.level (rs.map Fl.R.f) car num day c = res at *
    generalize Fl.flies (rs.map Fl.R.f) car num day = fl at *
    generalize rs[j] = r at *
    clear hi h hl hb1 K1 hj hf
    rw [ew1] at HFl HB1 HK1 hz1 k10 k11 k12
    cases hon : Fl.on r.f day with
    | false =>
      have HL2 := Lib.hid (HL.out.trans (Fl.lvlF_no hon))
      rw [HF2.out, hon] at HFl
      clear HL hon
      go_enter Tryz.func21, Tryz.ntmps21
      go_wp2_with (first
        | (go_at_call 45; refine HFl.out.mono ?_; rintro e w2 ⟨rfl, hb2⟩))
      go_ret2
      exact ⟨by (have e := HL2.out; subst e; rfl), HB1.out.trans (hb2.mono HB1.out.size)⟩
    | true =>
      have HL2 := Lib.hid (HL.out.trans (Fl.lvlF_yes hon))
      rw [HF2.out, hon] at HFl
      clear HL hon
      go_enter Tryz.func21, Tryz.ntmps21
      go_wp2_with (first
        | (go_at_call 45; refine HFl.out.mono ?_; rintro e w2 ⟨rfl, hb2⟩; have HB2 := Lib.hid (HB1.out.trans (hb2.mono HB1.out.size)); have k20 := (hb2.cell (p := ⟨w.heap.size, 0, none⟩) hz1).trans k10; have k21 := (hb2.cell (p := ⟨w.heap.size, 1, none⟩) hz1).trans k11)
        | (go_at_call 46; refine (HFd.out _ HB2.out).mono ?_; rintro e w22 ⟨rfl, hb22⟩; have HB22 := Lib.hid (HB2.out.trans (hb22.mono HB2.out.size)))
        | (refine Rw.wpList_alloc rfl 62 rfl (Fl.enc Fl.r0) Fl.zF ?_; intro w3 K3 hb3 hz3; clear hz3)
        | (refine Rw.wpList_store_whole rfl 62 _ _ rfl w22.heap.size rfl (Fl.enc r) rfl _ _ K3 Fl.iF rfl (Fl.enc_one _) ?_; intro w4 K4 f4; obtain ⟨c0, c1, c2, c3, c4, c5, c6, c7, c8⟩ := Fl.encs K4; have hb24 : Below w22.heap.size w22 w4 := hb3.trans (f4.below hb3.size (fun k hk => by have : k = w22.heap.size := hk; omega)); have HB4 := Lib.hid (HB22.out.trans (hb24.mono HB22.out.size)); have HK4 := Lib.hid K4)
)
      have hlen := HW.out.l
      have HC4 := Lib.hid (HC.out.below HB4.out hB)
      have hsz4 : B ≤ w4.heap.size := Nat.le_trans hB HB4.out.size
      have hg4 : w22.heap.size < w4.heap.size := K4.lt
      clear c0 c1 c2 c3 c4 c5 c6 c7 c8 HC HFd HFl K3 K4 f4 hb3 hb24 hb2 hb22 HB1 HK1 HB2 HB22 k10 k11 k12 k20 k21
      go_loopw [10] (fun i wr => ∃ (k : Nat), k ≤ r.f.cls.length ∧ i = .int .i64 k ∧ Hid (∀ i, i < k → Fl.lt r.f.cls i ≠ c) ∧ Below w4.heap.size w4 wr) (fun i _ => r.f.cls.length - (intOf i).toNat)
      case atStart => exact ⟨0, by omega, rfl, (fun i hi => absurd hi (by omega)), Below.refl _ _⟩
      case round =>
        obtain ⟨wx, ewx⟩ : ∃ x, x = wr := ⟨_, rfl⟩
        subst ewx
        obtain ⟨k, hk, rfl, HNo, hbr⟩ := hrel
        have c7 : wx.cell? ⟨w22.heap.size, 7, none⟩ = some (.slice r.A r.f.cls.length r.cap) := (hbr.cell (p := ⟨w22.heap.size, 7, none⟩) hg4).trans (HK4.out.cell 7)
        have HBN := Lib.hid (HB4.out.trans (hbr.mono HB4.out.size))
        by_cases hlt : k < r.f.cls.length
        · obtain ⟨b, off, hA, hbB, hcs⟩ := HC4.out.at (by omega)
          obtain ⟨g0, g1⟩ := hcs k hlt
          have c0 := (hbr.cell (p := ⟨b, off + k * 2, none⟩) (Nat.lt_of_lt_of_le hbB hsz4)).trans g0
          have c1 := (hbr.cell (p := ⟨b, off + k * 2 + 1, none⟩) (Nat.lt_of_lt_of_le hbB hsz4)).trans g1
          have HY : Hid (Fl.lt r.f.cls k = c → res = (Fl.lv r.f.cls k, 0)) := fun e => HL2.out.trans (Fl.lvlOf_at hlt e HNo.out)
          have HS2 : Hid (Fl.lt r.f.cls k ≠ c → ∀ i, i < k + 1 → Fl.lt r.f.cls i ≠ c) := fun e i hi => by
            rcases Nat.lt_or_ge i k with h | h
            · exact HNo.out i h
            · rw [show i = k by omega]; exact e
          rw [hA] at c7
          clear g0 g1 hcs
          by_cases hc : Fl.lt r.f.cls k = c
          · have HY2 := Lib.hid (HY.out hc)
            have hce : (Fl.lt r.f.cls k == c) = true := by simp [hc]
            clear hc HS2 HY
            generalize Fl.lt r.f.cls k = lk at *
            generalize Fl.lv r.f.cls k = vk at *
            go_wp2
            go_ret2
            exact ⟨by (have e := HY2.out; subst e; rfl), HBN.out⟩
          · have HY2 := Lib.hid (HS2.out hc)
            have hce : (Fl.lt r.f.cls k == c) = false := by simp [hc]
            clear hc HS2 HY
            generalize Fl.lt r.f.cls k = lk at *
            generalize Fl.lv r.f.cls k = vk at *
            go_wp2
            go_roundw
            case rel => exact ⟨k + 1, by omega, by go_num, HY2, hbr⟩
            case measure => simp [intOf]; omega
        · have HY : Hid (res = (0, 12)) := HL2.out.trans (Fl.lvlOf_non (fun i hi => HNo.out i (by omega)))
          go_wp2
          go_ret2
          exact ⟨by (have e := HY.out; subst e; rfl), HBN.out⟩
  · have HL2 := Lib.hid (Fl.level_non (day := day) (c := c) hno)
    have HF2 := Lib.hid (Fl.flies_non (day := day) hno)
    generalize Fl.level (rs.map Fl.R.f) car num day c = res at *
    generalize Fl.flies (rs.map Fl.R.f) car num day = fl at *
    clear h hl hb1 K1 hno
    rw [ew1] at HFl HB1 HK1 hz1 k10 k11 k12
    rw [HF2.out] at HFl
    go_enter Tryz.func21, Tryz.ntmps21
    go_wp2_with (first
        | (go_at_call 45; refine HFl.out.mono ?_; rintro e w2 ⟨rfl, hb2⟩))
    go_ret2
    exact ⟨by (have e := HL2.out; subst e; rfl), HB1.out.trans (hb2.mono HB1.out.size)⟩
end Go.Proofs.YtmcekicaigbccaaGreat
