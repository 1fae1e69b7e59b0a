/- Levels: the plain answer; the table's Level. -/
import Derived.Test.YtmcekicaigbccaaGreatFlFind
namespace Go.Proofs.YtmcekicaigbccaaGreat
open Go.RowKit Go.WideMaps
set_option linter.unusedVariables false

namespace Fl
/-- The level of a class among classes, and the error. -/
def lvlOf (l : List (Int × Int)) (c : Int) : Int × Int := match l.find? (fun p => p.1 == c) with
  | some p => (p.2, 0)
  | none => (0, 12)
/-- The level of a class of a flight on a day, and the error. -/
def lvlF (f : F) (day c : Int) : Int × Int := if on f day then lvlOf f.cls c else (0, 9)
def level (fs : List F) (car : ByteArray) (num day c : Int) : Int × Int := match fs.find? (fun f => isK f car num) with
  | some f => lvlF f day c
  | none => (0, 9)
theorem find_at {fs : List F} {car : ByteArray} {num : Int} {j : Nat} (hj : j < fs.length) (h1 : isK fs[j] car num = true) (h2 : ∀ i, i < j → ∀ hi : i < fs.length, isK fs[i] car num = false) : fs.find? (fun f => isK f car num) = some fs[j] := by
  rw [List.find?_eq_some_iff_getElem]
  exact ⟨h1, j, hj, rfl, fun i hi => by simpa using h2 i hi (by omega)⟩
theorem find_non {fs : List F} {car : ByteArray} {num : Int} (h : ∀ f ∈ fs, isK f car num = false) : fs.find? (fun f => isK f car num) = none := by
  rw [List.find?_eq_none]
  intro f hf
  rw [h f hf]; decide
theorem level_at {rs : List R} {car : ByteArray} {num day c : Int} {j : Nat} (hn : (ks rs).Nodup) (hj : j < rs.length) (h1 : isK rs[j].f car num = true) : level (rs.map R.f) car num day c = lvlF rs[j].f day c := by
  unfold level
  rw [find_at (fs := rs.map R.f) (j := j) (by simpa using hj) (by simpa using h1) (fun i hi hi2 => ?_)]
  · simp
  · cases he : isK (rs.map R.f)[i] car num with
    | false => rfl
    | true =>
      have hi3 : i < rs.length := by omega
      have := tab_uniq hn hi3 hj (by simpa using he) h1
      omega
theorem level_first {rs : List R} {car : ByteArray} {num day c : Int} {j : Nat} (hj : j < rs.length) (h1 : isK rs[j].f car num = true) (h2 : ∀ i, i < j → ∀ hi : i < rs.length, isK rs[i].f car num = false) : level (rs.map R.f) car num day c = lvlF rs[j].f day c := by
  unfold level
  rw [find_at (fs := rs.map R.f) (j := j) (by simpa using hj) (by simpa using h1) (fun i hi hi2 => by simpa using h2 i hi (by simpa using hi2))]
  simp
theorem level_non {rs : List R} {car : ByteArray} {num day c : Int} (h : ∀ r ∈ rs, isK r.f car num = false) : level (rs.map R.f) car num day c = (0, 9) := by
  unfold level
  rw [find_non (fun f hf => by obtain ⟨r, hr, rfl⟩ := List.mem_map.1 hf; exact h r hr)]
theorem lvlF_no {f : F} {day c : Int} (h : on f day = false) : lvlF f day c = (0, 9) := by unfold lvlF; rw [h]; rfl
theorem lvlF_yes {f : F} {day c : Int} (h : on f day = true) : lvlF f day c = lvlOf f.cls c := by unfold lvlF; rw [h]; rfl
theorem lvlOf_at {l : List (Int × Int)} {c : Int} {k : Nat} (hk : k < l.length) (h1 : lt l k = c) (h2 : ∀ i, i < k → lt l i ≠ c) : lvlOf l c = (lv l k, 0) := by
  have hlt : ∀ i (hi : i < l.length), lt l i = l[i].1 := fun i hi => by simp [lt, List.getD_eq_getElem?_getD, List.getElem?_eq_getElem hi]
  have hlv : lv l k = l[k].2 := by simp [lv, List.getD_eq_getElem?_getD, List.getElem?_eq_getElem hk]
  unfold lvlOf
  rw [show l.find? (fun p => p.1 == c) = some l[k] from ?_]
  · simp [hlv]
  · rw [List.find?_eq_some_iff_getElem]
    exact ⟨by rw [beq_iff_eq, ← hlt]; exact h1, k, hk, rfl, fun i hi => by
      have := h2 i hi
      rw [hlt i (by omega)] at this
      simpa using this⟩
theorem lvlOf_non {l : List (Int × Int)} {c : Int} (h2 : ∀ i, i < l.length → lt l i ≠ c) : lvlOf l c = (0, 12) := by
  have hlt : ∀ i (hi : i < l.length), lt l i = l[i].1 := fun i hi => by simp [lt, List.getD_eq_getElem?_getD, List.getElem?_eq_getElem hi]
  unfold lvlOf
  rw [show l.find? (fun p => p.1 == c) = none from ?_]
  · rw [List.find?_eq_none]
    intro p hp
    obtain ⟨i, hi, rfl⟩ := List.getElem_of_mem hp
    have := h2 i hi
    rw [hlt i hi] at this
    simpa using this
theorem mem_perm_find {α : Type} {l l' : List α} {p : α → Bool} (hp : l'.Perm l) (hu : ∀ x ∈ l, ∀ y ∈ l, p x = true → p y = true → x = y) : l'.find? p = l.find? p := by
  cases h : l.find? p with
  | none =>
    rw [List.find?_eq_none] at h ⊢
    exact fun x hx => h x (hp.mem_iff.1 hx)
  | some x =>
    have hx := List.mem_of_find?_eq_some h
    have hpx := List.find?_some h
    cases h' : l'.find? p with
    | none => rw [List.find?_eq_none] at h'; exact absurd hpx (h' x (hp.mem_iff.2 hx))
    | some y =>
      have hy := hp.mem_iff.1 (List.mem_of_find?_eq_some h')
      rw [hu x hx y hy hpx (List.find?_some h')]
/-- The order of the flights is all one to Level. -/
theorem level_perm {rs rs' : List R} (hp : (rs'.map R.f).Perm (rs.map R.f)) (hn : (ks rs).Nodup) (car : ByteArray) (num day c : Int) : level (rs'.map R.f) car num day c = level (rs.map R.f) car num day c := by
  unfold level
  rw [mem_perm_find hp (fun x hx y hy h1 h2 => ?_)]
  obtain ⟨i, hi, rfl⟩ := List.getElem_of_mem hx
  obtain ⟨j, hj, rfl⟩ := List.getElem_of_mem hy
  have hi2 : i < rs.length := by simpa using hi
  have hj2 : j < rs.length := by simpa using hj
  have := tab_uniq hn hi2 hj2 (by simpa using h1) (by simpa using h2)
  subst this
  rfl
end Fl
theorem find_yes (base p : Nat) (rs : List Fl.R) (car : ByteArray) (num : Int) (w : World) (h : Fl.Tab w base p rs) (hs : car.size ≤ 9223372036854775807) (h0 : -9223372036854775808 ≤ num) (h1 : num ≤ 9223372036854775807) (hl : rs.length ≤ 1000000) (j : Nat) (hj : j < rs.length) (hi : Fl.isK rs[j].f car num = true) :
    Calls Tryz.prog 66 #[.pointer (some ⟨p, 0, none⟩), .agg #[.string car, .int .i64 num]] w fun e w' => e = .returned (.tuple #[Fl.fv rs[j], .bool true]) ∧ Below w.heap.size w w' := by
  refine (find_any base p rs car num w h hs h0 h1 hl).mono fun e w' ⟨hh, hb⟩ => ⟨?_, hb⟩
  rcases hh with ⟨j2, hj2, hi2, he⟩ | ⟨hno, he⟩
  · have := Fl.tab_uniq h.nod hj hj2 hi hi2
    subst this
    exact he
  · rw [hno _ (List.getElem_mem hj)] at hi; cases hi
theorem find_no (base p : Nat) (rs : List Fl.R) (car : ByteArray) (num : Int) (w : World) (h : Fl.Tab w base p rs) (hs : car.size ≤ 9223372036854775807) (h0 : -9223372036854775808 ≤ num) (h1 : num ≤ 9223372036854775807) (hl : rs.length ≤ 1000000) (hno : ∀ r ∈ rs, Fl.isK r.f car num = false) :
    Calls Tryz.prog 66 #[.pointer (some ⟨p, 0, none⟩), .agg #[.string car, .int .i64 num]] w fun e w' => e = .returned (.tuple #[Fl.fv Fl.r0, .bool false]) ∧ Below w.heap.size w w' := by
  refine (find_any base p rs car num w h hs h0 h1 hl).mono fun e w' ⟨hh, hb⟩ => ⟨?_, hb⟩
  rcases hh with ⟨j2, hj2, hi2, he⟩ | ⟨_, he⟩
  · rw [hno _ (List.getElem_mem hj2)] at hi2; cases hi2
  · exact he
namespace Fl
theorem Tab.kept {w w' : World} {base p : Nat} {rs : List R} (h : Tab w base p rs) (hb : Below w.heap.size w w') : Tab w' base p rs := by
  obtain ⟨⟨A, cap, m, HB, HO, HM, hm0⟩, hlo, hnod, hri⟩ := h
  exact ⟨⟨A, cap, m, HB.below' hb, HO.below hb, HM.kept (hb.block m HM.lt), hm0⟩, hlo, hnod, hri⟩
theorem Tab.cls {w : World} {base p : Nat} {rs : List R} (h : Tab w base p rs) : ∀ r ∈ rs, Cls w w.heap.size r.A r.f.cls := by
  obtain ⟨⟨A, cap, m, HB, HO, HM, hm0⟩, _⟩ := h
  exact fun r hr => (HO.cls r hr).cls
theorem Tab.wf {w : World} {base p : Nat} {rs : List R} (h : Tab w base p rs) : ∀ r ∈ rs, Wf r := by
  obtain ⟨⟨A, cap, m, HB, HO, HM, hm0⟩, _⟩ := h
  exact HO.wf
/-- The nine cells of a flight. -/
theorem encs {w : World} {g : Nat} {r : R} (h : Rw.Blk w g 62 (enc r)) : w.cell? ⟨g, 0, none⟩ = some (.string r.f.car) ∧ w.cell? ⟨g, 1, none⟩ = some (.int .i64 r.f.num) ∧ w.cell? ⟨g, 2, none⟩ = some (.string r.f.frm) ∧ w.cell? ⟨g, 3, none⟩ = some (.string r.f.to) ∧ w.cell? ⟨g, 4, none⟩ = some (.int .u8 r.f.days) ∧ w.cell? ⟨g, 5, none⟩ = some (.int .i64 r.f.dep) ∧ w.cell? ⟨g, 6, none⟩ = some (.int .i64 r.f.arr) ∧ w.cell? ⟨g, 7, none⟩ = some (.slice r.A r.f.cls.length r.cap) ∧ w.cell? ⟨g, 8, none⟩ = some (.int .i64 r.f.plan) :=
  ⟨h.cell 0, h.cell 1, h.cell 2, h.cell 3, h.cell 4, h.cell 5, h.cell 6, h.cell 7, h.cell 8⟩
end Fl
set_option maxHeartbeats 1000000 in
set_option maxRecDepth 20000 in
theorem level_any (base p : Nat) (rs : List Fl.R) (car : ByteArray) (num day c : Int) (w : World) (h : Fl.Tab w base p rs) (hs : car.size ≤ 9223372036854775807) (h0 : -9223372036854775808 ≤ num) (h1 : num ≤ 9223372036854775807) (hl : rs.length ≤ 1000000) :
    Calls Tryz.prog 43 #[.pointer (some ⟨p, 0, none⟩), .agg #[.string car, .int .i64 num, .int .i64 day], .int .u8 c] w fun e w' => e = .returned (.tuple #[.int .i64 (Fl.level (rs.map Fl.R.f) car num day c).1, .int .i64 (Fl.level (rs.map Fl.R.f) car num day c).2]) ∧ Below w.heap.size w w' := by
  have HT := Lib.hid h
  obtain ⟨w1, ew1⟩ : ∃ x, x = w.alloc (.cells #[.string car, .int .i64 num, .int .i64 day] 34) := ⟨_, rfl⟩
  have hb1 : Below w.heap.size w w1 := by rw [ew1]; exact (Below.refl _ _).alloc (Nat.le_refl _) _
  have hz1 : w.heap.size < w1.heap.size := by rw [ew1]; simp
  have K1 : Rw.Blk w1 w.heap.size 34 [.string car, .int .i64 num, .int .i64 day] := by rw [ew1]; exact heap_alloc_new w _
  have HB1 := Lib.hid hb1
  have HK1 := Lib.hid K1
  by_cases hex : ∃ r ∈ rs, Fl.isK r.f car num = true
  · obtain ⟨r, hr, hi⟩ := hex
    obtain ⟨j, hj, rfl⟩ := List.getElem_of_mem hr
    have HFd := Lib.hid (find_yes base p rs car num w1 (h.kept hb1) hs h0 h1 hl j hj hi)
    have HL := Lib.hid (Fl.level_at (day := day) (c := c) h.nod hj hi)
    have HW := Lib.hid (h.wf _ hr)
    have HC := Lib.hid ((h.kept hb1).cls _ hr)
    generalize Fl.level (rs.map Fl.R.f) car num day c = res at *
    generalize rs[j] = r at *
    clear hr hi h hs h0 h1 hl HT hb1 K1 hj
    have HFl := Lib.hid (fun w => flies_any r day w HW.out)
    rw [ew1] at HFd HB1 HC HK1 hz1
    cases hon : Fl.on r.f day with
    | false =>
      rw [hon] at HFl
      have HL2 := Lib.hid (HL.out.trans (Fl.lvlF_no hon))
      clear HL hon
      go_enter Tryz.func43, Tryz.ntmps43
      go_wp2_with (first
        | (go_at_call 66; refine HFd.out.mono ?_; rintro e w2 ⟨rfl, hb2⟩; have hlt2 : w.heap.size < w2.heap.size := Nat.lt_of_lt_of_le hz1 hb2.size; have HB2 := Lib.hid (HB1.out.trans (hb2.mono HB1.out.size)); have k1 : w2.cell? ⟨w.heap.size, 2, none⟩ = some (.int .i64 day) := (hb2.cell (p := ⟨w.heap.size, 2, none⟩) hz1).trans (HK1.out.cell 2))
        | (refine Rw.wpList_alloc rfl 62 rfl (Fl.enc Fl.r0) Fl.zF ?_; intro w3 K3 hb3 hz3; clear hz3)
        | (refine Rw.wpList_store_whole rfl 62 _ _ rfl w2.heap.size rfl (Fl.enc r) rfl _ _ K3 Fl.iF rfl (Fl.enc_one _) ?_; intro w4 K4 f4; obtain ⟨c0, c1, c2, c3, c4, c5, c6, c7, c8⟩ := Fl.encs K4; have hb24 : Below w2.heap.size w2 w4 := hb3.trans (f4.below hb3.size (fun k hk => by have : k = w2.heap.size := hk; omega)); have k2 : w4.cell? ⟨w.heap.size, 2, none⟩ = some (.int .i64 day) := (hb24.cell (p := ⟨w.heap.size, 2, none⟩) hlt2).trans k1; have HB4 := Lib.hid (HB2.out.trans (hb24.mono HB2.out.size)))
        | (go_at_call 67; refine (HFl.out _).mono ?_; rintro e w5 ⟨rfl, hb5⟩))
      go_ret2
      exact ⟨by (have e := HL2.out; subst e; rfl), HB4.out.trans (hb5.mono HB4.out.size)⟩
    | true =>
      rw [hon] at HFl
      have HL2 := Lib.hid (HL.out.trans (Fl.lvlF_yes hon))
      clear HL hon
      go_enter Tryz.func43, Tryz.ntmps43
      go_wp2_with (first
        | (go_at_call 66; refine HFd.out.mono ?_; rintro e w2 ⟨rfl, hb2⟩; have hlt2 : w.heap.size < w2.heap.size := Nat.lt_of_lt_of_le hz1 hb2.size; have HB2 := Lib.hid (HB1.out.trans (hb2.mono HB1.out.size)); have k1 : w2.cell? ⟨w.heap.size, 2, none⟩ = some (.int .i64 day) := (hb2.cell (p := ⟨w.heap.size, 2, none⟩) hz1).trans (HK1.out.cell 2))
        | (refine Rw.wpList_alloc rfl 62 rfl (Fl.enc Fl.r0) Fl.zF ?_; intro w3 K3 hb3 hz3; clear hz3)
        | (refine Rw.wpList_store_whole rfl 62 _ _ rfl w2.heap.size rfl (Fl.enc r) rfl _ _ K3 Fl.iF rfl (Fl.enc_one _) ?_; intro w4 K4 f4; obtain ⟨c0, c1, c2, c3, c4, c5, c6, c7, c8⟩ := Fl.encs K4; have hb24 : Below w2.heap.size w2 w4 := hb3.trans (f4.below hb3.size (fun k hk => by have : k = w2.heap.size := hk; omega)); have k2 : w4.cell? ⟨w.heap.size, 2, none⟩ = some (.int .i64 day) := (hb24.cell (p := ⟨w.heap.size, 2, none⟩) hlt2).trans k1; have HB4 := Lib.hid (HB2.out.trans (hb24.mono HB2.out.size)))
        | (go_at_call 67; refine (HFl.out _).mono ?_; rintro e w5 ⟨rfl, hb5⟩; have c57 : w5.cell? ⟨w2.heap.size, 7, none⟩ = some (.slice r.A r.f.cls.length r.cap) := (hb5.cell (p := ⟨w2.heap.size, 7, none⟩) K4.lt).trans c7; have HB5 := Lib.hid (HB4.out.trans (hb5.mono HB4.out.size)); have HC5 := Lib.hid ((HC.out.below (hb2.trans (hb24.mono hb2.size)) (Nat.le_refl _)).below hb5 (Nat.le_trans hb2.size hb24.size))))
      have hlen := HW.out.l
      have hsz5 : (w.alloc (.cells #[.string car, .int .i64 num, .int .i64 day] 34)).heap.size ≤ w5.heap.size := Nat.le_trans hb2.size (Nat.le_trans hb24.size hb5.size)
      clear c0 c1 c2 c3 c4 c5 c6 c7 c8 c57 k1 k2 HC HFd HFl K3 K4 f4 hb3 hb24 hb2 hb5 HB1 HK1 HB2 HB4
      go_loopw [31] (fun i wr => ∃ (k : Nat), k ≤ r.f.cls.length ∧ i = .int .i64 k ∧ Hid (∀ i, i < k → Fl.lt r.f.cls i ≠ c) ∧ Below w5.heap.size w5 wr) (fun i _ => r.f.cls.length - (intOf i).toNat)
      case atStart => exact ⟨0, by omega, rfl, (fun i hi => absurd hi (by omega)), Below.refl _ _⟩
      case round =>
        obtain ⟨wx, ewx⟩ : ∃ x, x = wr := ⟨_, rfl⟩
        subst ewx
        obtain ⟨k, hk, rfl, HNo, hbr⟩ := hrel
        by_cases hlt : k < r.f.cls.length
        · obtain ⟨b, off, hA, hbB, hcs⟩ := HC5.out.at (by omega)
          obtain ⟨g0, g1⟩ := hcs k hlt
          have c0 := (hbr.cell (p := ⟨b, off + k * 2, none⟩) (Nat.lt_of_lt_of_le hbB hsz5)).trans g0
          have c1 := (hbr.cell (p := ⟨b, off + k * 2 + 1, none⟩) (Nat.lt_of_lt_of_le hbB hsz5)).trans g1
          have hbn := (hbr.alloc hbr.size (.cells #[.int .u8 (Fl.lt r.f.cls k), .int .i64 (Fl.lv r.f.cls k)] 59))
          have HBN := Lib.hid (HB5.out.trans (hbn.mono HB5.out.size))
          have HY : Hid (Fl.lt r.f.cls k = c → res = (Fl.lv r.f.cls k, 0)) := fun e => HL2.out.trans (Fl.lvlOf_at hlt e HNo.out)
          have HS2 : Hid (Fl.lt r.f.cls k ≠ c → ∀ i, i < k + 1 → Fl.lt r.f.cls i ≠ c) := fun e i hi => by
            rcases Nat.lt_or_ge i k with h | h
            · exact HNo.out i h
            · rw [show i = k by omega]; exact e
          rw [hA]
          clear g0 g1 hcs
          by_cases hc : Fl.lt r.f.cls k = c
          · have HY2 := Lib.hid (HY.out hc)
            have hce : (Fl.lt r.f.cls k == c) = true := by simp [hc]
            clear hc HS2 HY
            generalize Fl.lt r.f.cls k = lk at *
            generalize Fl.lv r.f.cls k = vk at *
            go_wp2
            go_ret2
            exact ⟨by (have e := HY2.out; subst e; rfl), HBN.out⟩
          · have HY2 := Lib.hid (HS2.out hc)
            have hce : (Fl.lt r.f.cls k == c) = false := by simp [hc]
            clear hc HS2 HY
            generalize Fl.lt r.f.cls k = lk at *
            generalize Fl.lv r.f.cls k = vk at *
            go_wp2
            go_roundw
            case rel => exact ⟨k + 1, by omega, by go_num, HY2, hbn⟩
            case measure => simp [intOf]; omega
        · have HY : Hid (res = (0, 12)) := HL2.out.trans (Fl.lvlOf_non (fun i hi => HNo.out i (by omega)))
          have HBN := Lib.hid (HB5.out.trans (hbr.mono HB5.out.size))
          go_wp2
          go_ret2
          exact ⟨by (have e := HY.out; subst e; rfl), HBN.out⟩
  · have hno : ∀ r ∈ rs, Fl.isK r.f car num = false := fun r hr => by
      cases hc : Fl.isK r.f car num with
      | false => rfl
      | true => exact absurd ⟨r, hr, hc⟩ hex
    have HFd := Lib.hid (find_no base p rs car num w1 (h.kept hb1) hs h0 h1 hl hno)
    have HL2 := Lib.hid (Fl.level_non (day := day) (c := c) hno)
    generalize Fl.level (rs.map Fl.R.f) car num day c = res at *
    clear h hs h0 h1 hl HT hb1 K1 hno hex
    rw [ew1] at HFd HB1 HK1 hz1
    generalize Fl.r0 = r at HFd
    go_enter Tryz.func43, Tryz.ntmps43
    go_wp2_with (first
        | (go_at_call 66; refine HFd.out.mono ?_; rintro e w2 ⟨rfl, hb2⟩; have hlt2 : w.heap.size < w2.heap.size := Nat.lt_of_lt_of_le hz1 hb2.size; have HB2 := Lib.hid (HB1.out.trans (hb2.mono HB1.out.size)); have k1 : w2.cell? ⟨w.heap.size, 2, none⟩ = some (.int .i64 day) := (hb2.cell (p := ⟨w.heap.size, 2, none⟩) hz1).trans (HK1.out.cell 2))
        | (refine Rw.wpList_alloc rfl 62 rfl (Fl.enc Fl.r0) Fl.zF ?_; intro w3 K3 hb3 hz3; clear hz3)
        | (refine Rw.wpList_store_whole rfl 62 _ _ rfl w2.heap.size rfl (Fl.enc r) rfl _ _ K3 Fl.iF rfl (Fl.enc_one _) ?_; intro w4 K4 f4; obtain ⟨c0, c1, c2, c3, c4, c5, c6, c7, c8⟩ := Fl.encs K4; have hb24 : Below w2.heap.size w2 w4 := hb3.trans (f4.below hb3.size (fun k hk => by have : k = w2.heap.size := hk; omega)); have k2 : w4.cell? ⟨w.heap.size, 2, none⟩ = some (.int .i64 day) := (hb24.cell (p := ⟨w.heap.size, 2, none⟩) hlt2).trans k1; have HB4 := Lib.hid (HB2.out.trans (hb24.mono HB2.out.size)))
)
    go_ret2
    exact ⟨by (have e := HL2.out; subst e; rfl), HB4.out⟩
end Go.Proofs.YtmcekicaigbccaaGreat
