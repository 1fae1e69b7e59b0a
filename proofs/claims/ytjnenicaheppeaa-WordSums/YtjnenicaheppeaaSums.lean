/- WordSums, for every input: the check sum of any parts is the document's, however the bytes are cut into parts; no conditions. -/
import Derived.Test.YtjnenicaheppeaaApp
import Derived.Deep.RegionHeld3
import Derived.Deep.Matrix
namespace Go.Proofs.Ytjnenicaheppeaa
open Go.ChangeShapes Go.WideShapes Go.ChangeAt Go.RowKit
set_option linter.unusedVariables false

namespace Wd
/-- The slice at A holds slices of bytes, as they come in. -/
def Prts3 (w : World) (B : Nat) (A : Option Addr) (ps : List (List UInt8)) : Prop :=
  0 < ps.length → ∃ b off, A = some ⟨b, off, none⟩ ∧ b < B ∧ ∀ j (hj : j < ps.length), ∃ A' c, w.cell? ⟨b, off + j, none⟩ = some (.slice A' ps[j].length c) ∧ Bts w B A' ps[j] ∧ (A' = none → c = 0) ∧ ps[j].length ≤ maxLen
theorem Prts3.prts {w : World} {B : Nat} {A : Option Addr} {ps : List (List UInt8)} (h : Prts3 w B A ps) : Prts w B A ps := fun h0 => by
  obtain ⟨b, off, e, hb, hc⟩ := h h0
  exact ⟨b, off, e, hb, fun j hj => by
    obtain ⟨A', c, h1, h2, _⟩ := hc j hj
    exact ⟨A', c, h1, h2⟩⟩
theorem Prts.below {w w' : World} {B : Nat} {A : Option Addr} {ps : List (List UInt8)} (h : Prts w B A ps) (hb : Below B w w') : Prts w' B A ps := fun h0 => by
  obtain ⟨b, off, e, hB, hc⟩ := h h0
  exact ⟨b, off, e, hB, fun j hj => by
    obtain ⟨A', c, h1, h2⟩ := hc j hj
    exact ⟨A', c, (hb.cell (p := ⟨b, off + j, none⟩) hB).trans h1, h2.below hb⟩⟩
theorem bts_of_cells {W : World} (a' : Addr) (L C : Nat) (Z : List Int) (hL : L ≤ C) (hz : Z.length = C) (hwz : ∀ n ∈ Z, (Lit.int .u8 n).wf = true) (hcell : ∀ c, c < C → W.cell? (a'.add c) = some (.int .u8 (Z.getD c 0))) :
    ((Z.take L).map fun n => UInt8.ofNat n.toNat).length = L ∧ Bts W W.heap.size (some a') ((Z.take L).map fun n => UInt8.ofNat n.toNat) := by
  have hlen : ((Z.take L).map fun n => UInt8.ofNat n.toNat).length = L := by rw [List.length_map, List.length_take]; omega
  refine ⟨hlen, fun h0 => ?_⟩
  rw [hlen] at h0
  obtain ⟨b, off, spot⟩ := a'
  have hc0 := hcell 0 (by omega)
  have hspot : spot = none := by simpa [Addr.add] using World.cell?_spot hc0
  subst hspot
  refine ⟨b, off, rfl, ?_, fun j hj => ?_⟩
  · have := block_lt_of_cell hc0
    rwa [add_plain] at this
  · rw [hlen] at hj
    have hcj := hcell j (by omega)
    rw [add_plain] at hcj
    rw [hcj]
    have hj' : j < Z.length := by omega
    have hb := bounds_u8 (hwz Z[j] (List.getElem_mem hj'))
    simp [hj']
    omega
theorem open_parts {H : Type} {enc : TypeId × Value → H} {W : World} {a : Option Addr} {len cap : Nat} {d : DataW H} {p : List MemPlace}
    (h : DataW.Trod enc Try.prog W 0 (fun _ => true) true 44 (.slice a len cap) d p) :
    ∃ ps : List (List UInt8), ps.length = len ∧ Prts3 W W.heap.size a ps ∧ ps.length ≤ maxLen := by
  obtain ⟨fuel, hf⟩ := h
  rcases Deep.open_int_rows Try.underlying44 Try.underlying22 Try.underlying5 (by kernel_rfl) (by kernel_rfl) hf with ⟨hcs, _⟩ | ⟨x, n, c, A, L, C, Z, hcs, _, hl, hm, _, hr⟩
  · simp [Value.cells] at hcs
    obtain ⟨rfl, rfl, rfl⟩ := hcs
    exact ⟨[], rfl, fun h => absurd h (by decide), by simp⟩
  · simp [Value.cells] at hcs
    obtain ⟨rfl, rfl, rfl⟩ := hcs
    have hlen : ((List.range len).map fun r => ((Z r).take (L r)).map fun n => UInt8.ofNat n.toNat).length = len := by simp
    refine ⟨(List.range len).map fun r => ((Z r).take (L r)).map fun n => UInt8.ofNat n.toNat, hlen, fun h0 => ?_, by omega⟩
    rw [hlen] at h0
    obtain ⟨b, off, spot⟩ := x
    have hc0 := (hr 0 (by omega)).1
    have hspot : spot = none := by simpa [Addr.add] using World.cell?_spot hc0
    subst hspot
    refine ⟨b, off, rfl, ?_, fun j hj => ?_⟩
    · have := block_lt_of_cell hc0
      rwa [add_plain] at this
    · rw [hlen] at hj
      obtain ⟨g1, g2, g3, g4, g5, g6, g7⟩ := hr j (by omega)
      rw [add_plain] at g1
      simp only [List.getElem_map, List.getElem_range]
      cases hA : A j with
      | none =>
        have hC := g6 hA
        have hL : L j = 0 := by omega
        refine ⟨none, C j, ?_, ?_, fun _ => hC, ?_⟩
        · rw [g1, hA, hL]; rfl
        · rw [hL]; exact fun h => absurd h (by simp)
        · rw [hL]; simp
      | some a' =>
        obtain ⟨k1, k2⟩ := bts_of_cells (W := W) a' (L j) (C j) (Z j) g2 g4 g5 (g7 a' hA).2
        refine ⟨some a', C j, ?_, k2, (fun h => by cases h), ?_⟩
        · rw [g1, hA, k1]
        · rw [k1]; omega
end Wd

/-- Sum of one part that lies in a world. -/
theorem sum_single (X : World) (A : Option Addr) (l : List UInt8) (c n g B : Nat) (hc : X.cell? ⟨g, 0, none⟩ = some (.slice A n c)) (hb : Wd.Bts X B A l) (hg : g < B) (hl : l.length ≤ 1152921504606846976) (hn : l.length = n) (z : Nat) (hz : Wd.crc l = z) :
    Calls Try.prog 23 #[.slice (some ⟨g, 0, none⟩) 1 1] X fun e w' => e = .returned (.int .u32 (z : Int)) ∧ X = w' := by
  subst hn
  subst hz
  have hp : Wd.Prts X B (some ⟨g, 0, none⟩) [l] := fun _ => ⟨_, 0, rfl, hg, fun j hj => by
    obtain rfl : j = 0 := by simpa using hj
    exact ⟨A, c, hc, hb⟩⟩
  exact sum_any _ 1 _ [l] _ hp (show 1 ≤ _ by decide) (fun j hj => by
    obtain rfl : j = 0 := by simpa using hj
    exact hl)
theorem sum_parts (X : World) (A : Option Addr) (c B : Nat) (ps : List (List UInt8)) (hp : Wd.Prts X B A ps) (hn : ps.length ≤ 1000) (hl : ∀ j (hj : j < ps.length), ps[j].length ≤ 5000) (z : Nat) (hz : Wd.crc ps.flatten = z) :
    Calls Try.prog 23 #[.slice A ps.length c] X fun e w' => e = .returned (.int .u32 (z : Int)) ∧ X = w' := by
  have h := sum_any A c B ps X hp (by omega) (fun j hj => by have := hl j hj; omega)
  rw [Wd.crcs_eq, show 4294967295 - Wd.crcOn 4294967295 ps.flatten = z from hz] at h
  exact h

set_option maxRecDepth 100000 in
set_option maxHeartbeats 2000000 in
theorem sums_walk (w : World) (A : Option Addr) (ps : List (List UInt8)) (c : Nat) (hP : Wd.Prts3 w w.heap.size A ps) (hl : ps.length ≤ maxLen) :
    Calls Try.prog 6 #[.slice A ps.length c] w fun e w' => e = .returned (.bool true) ∧ Below w.heap.size w w' := by
  unfold maxLen at hl
  have HP := Lib.hid hP
  clear hP
  go_enter Try.func6, Try.ntmps6
  go_wp2_with (go_at_call 10; refine (awake_any _).mono ?_; rintro e w1 ⟨rfl, hb1⟩)
  go_loopw [3, 4] (fun v i wr => ∃ (k : Nat) (A1 : Option Addr) (c1 : Nat) (F : List UInt8), k ≤ ps.length ∧ k ≤ 1000 ∧ i = .int .i64 k ∧ v = .slice A1 F.length c1 ∧ Hid (F = (ps.take k).flatten) ∧ Hid (Wd.OwnV wr w.heap.size (.slice A1 F.length c1) F) ∧ Below w.heap.size w wr ∧ F.length ≤ 5000 ∧ Hid (∀ j (hj : j < ps.length), j < k → ps[j].length ≤ 5000)) (fun _ i _ => ps.length - (intOf i).toNat)
  case atStart => exact ⟨0, none, 0, [], by omega, by omega, rfl, rfl, show _ = _ by simp, Wd.OwnV.none_ _ _, hb1, by simp, fun j _ h => absurd h (by omega)⟩
  case round =>
    obtain ⟨k, A1, c1, F, hk, hk1, rfl, rfl, HF, HO, hbr, hF, HS⟩ := hrel
    by_cases hlt : k < ps.length
    · obtain ⟨b, off, rfl, hbB, hc⟩ := HP.out (by omega)
      obtain ⟨A', c', hc1, hb', hn', hpl⟩ := hc k hlt
      have hcr : wr.cell? ⟨b, off + k, none⟩ = some (.slice A' ps[k].length c') := (hbr.cell (p := ⟨b, off + k, none⟩) hbB).trans hc1
      have HFS : Hid (F ++ ps[k] = (ps.take (k + 1)).flatten) := show _ = _ by rw [HF.out, Wd.take_snoc' ps k hlt, List.flatten_append]; simp
      have HB := Lib.hid (hb'.below hbr)
      have HN := Lib.hid hn'
      have HS2 : ps[k].length ≤ 5000 → Hid (∀ j (hj : j < ps.length), j < k + 1 → ps[j].length ≤ 5000) := fun h j hj hjk => by
        rcases Nat.lt_or_ge j k with g | g
        · exact HS.out j hj g
        · obtain rfl : j = k := by omega
          exact h
      have HS3 := Lib.hid HS2
      unfold maxLen at hpl
      clear hc hc1 hb' hn' HS2
      generalize ps[k] = p at *
      by_cases hk2 : k < 1000
      · by_cases hbig : 5000 - (F.length : Int) < (p.length : Int)
        · go_wp2
          go_ret
          exact ⟨rfl, hbr⟩
        · go_wp2_with (at_builtin; refine Wd.wpList_append8 rfl (.tmp 26) (.tmp 30) rfl w.heap.size w.heap.size _ F p (F ++ p) rfl HO.out A' c' rfl HN.out HB.out rfl (by rw [List.length_append]; omega) hbr.size ?_; intro A2 c2 w2 HO2 hb2; have hbw2 := hbr.trans hb2)
          go_roundw
          case rel => exact ⟨k + 1, A2, c2, F ++ p, by omega, by omega, by go_num, by rw [List.length_append], HFS, HO2, hbw2, by rw [List.length_append]; omega, HS3.out (by omega)⟩
          case measure => simp [intOf]; omega
      · go_wp2
        go_ret
        exact ⟨rfl, hbr⟩
    · obtain rfl : k = ps.length := by omega
      have hFall : F = ps.flatten := by have := HF.out; rwa [List.take_length] at this
      obtain ⟨z, hz⟩ : ∃ z, Wd.crc F = z := ⟨_, rfl⟩
      have h23 : ∀ W, Below w.heap.size w W → Calls Try.prog 23 #[.slice A ps.length c] W fun e w' => e = .returned (.int .u32 (z : Int)) ∧ W = w' := fun W hW =>
        sum_parts W A c _ ps (HP.out.prts.below hW) hk1 (fun j hj => HS.out j hj hj) z (by rw [← hFall]; exact hz)
      have h24 : ∀ W, Calls Try.prog 24 #[.string ⟨F.toArray⟩] W fun e w' => e = .returned (.int .u32 (z : Int)) ∧ W = w' := fun W => by
        have := rsum_any F W (by omega)
        rwa [hz] at this
      have hcv : ∀ W, Below wr.heap.size wr W → (convert 22 9 (.slice A1 F.length c1)).run Try.prog W = .ok (.string ⟨F.toArray⟩) W := fun W hW => Wd.conv (HO.out.below hW).bts c1
      have H23 := Lib.hid h23
      have H24 := Lib.hid h24
      have CV := Lib.hid hcv
      have HZ := Lib.hid hz
      clear hFall h23 h24 hcv hz HF HS
      go_wp2_with fail
      have c1' := CV.out wr.drew (Below.refl _ wr).drew
      refine wp_region_noPanic ?_
      refine wp_region_held_drew (S := fun W => (convert 22 9 (.slice A1 F.length c1)).run Try.prog W = .ok (.string ⟨F.toArray⟩) W) (by kernel_rfl) c1' (fun hHeld => ?_)
      refine wpAnyH_take (i := 0) (oi := ⟨some 32, _, _, _, _, _⟩) (v := ?_) rfl (by kernel_rfl) (by kernel_rfl) (by kernel_rfl) (fun _ _ _ h => h) (Or.inl ⟨by rfl, ?_⟩) (by assumption) ?_
      rotate_left
      · (intro w hSw; (try dsimp only at hSw); go_simp <;> with_reducible rfl)
      try simp only [Act.put]
      try simp only [List.setIfInBounds_toArray]
      try simp only [List.set_cons_succ]
      try simp only [List.set_cons_zero]
      refine wpAnyH_take (i := 2) (oi := ⟨some 34, _, _, _, _, _⟩) (v := ?_) rfl (by kernel_rfl) (by kernel_rfl) (by kernel_rfl) (fun _ _ _ h => h) (Or.inl ⟨by rfl, ?_⟩) (by assumption) ?_
      rotate_left
      · (intro w hSw; (try dsimp only at hSw); go_simp <;> with_reducible rfl)
      try simp only [Act.put]
      try simp only [List.setIfInBounds_toArray]
      try simp only [List.set_cons_succ]
      try simp only [List.set_cons_zero]
      refine wpAnyH_take (i := 3) (oi := ⟨some 35, _, _, _, _, _⟩) (v := ?_) rfl (by kernel_rfl) (by kernel_rfl) (by kernel_rfl) (fun _ _ _ h => h) (Or.inl ⟨by rfl, ?_⟩) (by assumption) ?_
      rotate_left
      · (intro w hSw; (try dsimp only at hSw); go_simp <;> with_reducible rfl)
      try simp only [Act.put]
      try simp only [List.setIfInBounds_toArray]
      try simp only [List.set_cons_succ]
      try simp only [List.set_cons_zero]
      refine wpAnyH_ready (rs := [1]) (by kernel_rfl) (by simp) ?_
      refine AllReadyH.cons (o := ⟨some 33, _, _, _, _, _⟩) rfl (fun K hK => ?_) AllReadyH.nil
      go_simp
      go_at_call 23
      refine (H23.out _ hbr.drew).mono ?_
      rintro e w' ⟨rfl, rfl⟩
      go_wp2_with fail
      refine hK.out _ _ ?_ (fun hHeld2 => ?_)
      · exact c1'
      clear hK K
      try simp only [Act.put]
      try simp only [List.setIfInBounds_toArray]
      try simp only [List.set_cons_succ]
      try simp only [List.set_cons_zero]
      clear hHeld2
      refine wpAnyH_ready (rs := [4]) (by kernel_rfl) (by simp) ?_
      refine AllReadyH.cons (o := ⟨some 36, _, _, _, _, _⟩) rfl (fun K hK => ?_) AllReadyH.nil
      go_simp
      go_at_call 24
      refine (H24.out _).mono ?_
      rintro e w' ⟨rfl, rfl⟩
      go_wp2_with fail
      refine hK.out _ _ ?_ (fun hHeld2 => ?_)
      · exact c1'
      clear hK K
      try simp only [Act.put]
      try simp only [List.setIfInBounds_toArray]
      try simp only [List.set_cons_succ]
      try simp only [List.set_cons_zero]
      clear hHeld2
      refine wpAnyH_take (i := 5) (oi := ⟨some 37, _, _, _, _, _⟩) (v := ?_) rfl (by kernel_rfl) (by kernel_rfl) (by kernel_rfl) (fun _ _ _ h => h) (Or.inl ⟨by rfl, ?_⟩) (by assumption) ?_
      rotate_left
      · (intro w hSw; (try dsimp only at hSw); go_simp <;> with_reducible rfl)
      try simp only [Act.put]
      try simp only [List.setIfInBounds_toArray]
      try simp only [List.set_cons_succ]
      try simp only [List.set_cons_zero]
      refine wpAnyH_take (i := 6) (oi := ⟨some 38, _, _, _, _, _⟩) (v := ?_) rfl (by kernel_rfl) (by kernel_rfl) (by kernel_rfl) (fun _ _ _ h => h) (Or.inl ⟨by rfl, ?_⟩) (by assumption) ?_
      rotate_left
      · (intro w hSw; (try dsimp only at hSw); go_simp <;> with_reducible rfl)
      try simp only [Act.put]
      try simp only [List.setIfInBounds_toArray]
      try simp only [List.set_cons_succ]
      try simp only [List.set_cons_zero]
      refine wpAnyH_take (i := 7) (oi := ⟨some 39, _, _, _, _, _⟩) (v := ?_) rfl (by kernel_rfl) (by kernel_rfl) (by kernel_rfl) (fun _ _ _ h => h) (Or.inl ⟨by rfl, ?_⟩) (by assumption) ?_
      rotate_left
      · (intro w hSw; (try dsimp only at hSw); go_simp <;> with_reducible rfl)
      try simp only [Act.put]
      try simp only [List.setIfInBounds_toArray]
      try simp only [List.set_cons_succ]
      try simp only [List.set_cons_zero]
      refine wpAnyH_take (i := 10) (oi := ⟨some 42, _, _, _, _, _⟩) (v := ?_) rfl (by kernel_rfl) (by kernel_rfl) (by kernel_rfl) (fun _ _ _ h => h) (Or.inl ⟨by rfl, ?_⟩) (by assumption) ?_
      rotate_left
      · (intro w hSw; (try dsimp only at hSw); go_simp <;> with_reducible rfl)
      try simp only [Act.put]
      try simp only [List.setIfInBounds_toArray]
      try simp only [List.set_cons_succ]
      try simp only [List.set_cons_zero]
      refine wpAnyH_ready (rs := [8]) (by kernel_rfl) (by simp) ?_
      refine AllReadyH.cons (o := ⟨some 40, _, _, _, _, _⟩) rfl (fun K hK => ?_) AllReadyH.nil
      go_simp
      refine hK.out _ _ ?_ (fun hHeld2 => ?_)
      · exact (by first | exact CV.out _ ((Below.refl _ wr).alloc (Nat.le_refl _) _).drew | exact CV.out _ ((Below.refl _ wr).drew.alloc (Nat.le_refl _) _))
      clear hK K
      try simp only [Act.put]
      try simp only [List.setIfInBounds_toArray]
      try simp only [List.set_cons_succ]
      try simp only [List.set_cons_zero]
      have hbX : Below wr.heap.size wr ((wr.alloc (.cells #[.slice A1 F.length c1] 22)).drew) := ((Below.refl _ wr).alloc (Nat.le_refl _) _).drew
      have hcX : ((wr.alloc (.cells #[.slice A1 F.length c1] 22)).drew).cell? ⟨wr.heap.size, 0, none⟩ = some (.slice A1 F.length c1) := cell_of_row (wr.alloc (.cells #[.slice A1 F.length c1] 22)) _ 0 _ _ _ (heap_alloc_new wr _)
      have hsX : wr.heap.size < ((wr.alloc (.cells #[.slice A1 F.length c1] 22)).drew).heap.size := by show _ < (wr.alloc _).heap.size; rw [World.size_alloc]; omega
      have cX := CV.out _ hbX
      generalize ((wr.alloc (.cells #[.slice A1 F.length c1] 22)).drew) = X at *
      have hbwX : Below w.heap.size w X := hbr.trans (hbX.mono hbr.size)
      have HBX := Lib.hid ((HO.out.below hbX).bts)
      have HCX := Lib.hid hcX
      clear hcX hHeld c1'
      refine wpAnyH_ready (rs := [9]) (by kernel_rfl) (by simp) ?_
      refine AllReadyH.cons (o := ⟨some 41, _, _, _, _, _⟩) rfl (fun K hK => ?_) AllReadyH.nil
      go_simp
      go_at_call 23
      refine (sum_single X A1 F c1 F.length wr.heap.size X.heap.size HCX.out HBX.out hsX (by omega) rfl z HZ.out).mono ?_
      rintro e w' ⟨rfl, rfl⟩
      go_wp2_with fail
      refine hK.out _ _ ?_ (fun hHeld2 => ?_)
      · exact cX
      clear hK K
      try simp only [Act.put]
      try simp only [List.setIfInBounds_toArray]
      try simp only [List.set_cons_succ]
      try simp only [List.set_cons_zero]
      clear hHeld2
      refine wpAnyH_ready (rs := [11]) (by kernel_rfl) (by simp) ?_
      refine AllReadyH.cons (o := ⟨some 43, _, _, _, _, _⟩) rfl (fun K hK => ?_) AllReadyH.nil
      go_simp
      go_at_call 23
      refine (H23.out X hbwX).mono ?_
      rintro e w' ⟨rfl, rfl⟩
      go_wp2_with fail
      refine hK.out _ _ ?_ (fun hHeld2 => ?_)
      · exact cX
      clear hK K
      try simp only [Act.put]
      try simp only [List.setIfInBounds_toArray]
      try simp only [List.set_cons_succ]
      try simp only [List.set_cons_zero]
      refine wpAnyH_take (i := 12) (oi := ⟨some 44, _, _, _, _, _⟩) (v := ?_) rfl (by kernel_rfl) (by kernel_rfl) (by kernel_rfl) (fun _ _ _ h => h) (Or.inl ⟨by rfl, ?_⟩) (by assumption) ?_
      rotate_left
      · (intro w hSw; (try dsimp only at hSw); go_simp <;> with_reducible rfl)
      try simp only [Act.put]
      try simp only [List.setIfInBounds_toArray]
      try simp only [List.set_cons_succ]
      try simp only [List.set_cons_zero]
      refine wpAnyH_take (i := 13) (oi := ⟨some 45, _, _, _, _, _⟩) (v := ?_) rfl (by kernel_rfl) (by kernel_rfl) (by kernel_rfl) (fun _ _ _ h => h) (Or.inl ⟨by rfl, ?_⟩) (by assumption) ?_
      rotate_left
      · (intro w hSw; (try dsimp only at hSw); go_simp <;> with_reducible rfl)
      try simp only [Act.put]
      try simp only [List.setIfInBounds_toArray]
      try simp only [List.set_cons_succ]
      try simp only [List.set_cons_zero]
      refine wpAnyH_take (i := 14) (oi := ⟨some 2, _, _, _, _, _⟩) (v := ?_) rfl (by kernel_rfl) (by kernel_rfl) (by kernel_rfl) (fun _ _ _ h => h) (Or.inl ⟨by rfl, ?_⟩) (by assumption) ?_
      rotate_left
      · (intro w hSw; (try dsimp only at hSw); go_simp <;> with_reducible rfl)
      try simp only [Act.put]
      try simp only [List.setIfInBounds_toArray]
      try simp only [List.set_cons_succ]
      try simp only [List.set_cons_zero]
      refine wpAnyH_done (by kernel_rfl) ?_ _
      refine NoPanic.normal ?_
      go_wp2
      go_ret
      exact ⟨rfl, hbwX⟩

set_option maxRecDepth 100000 in
theorem wordSums_lifted (os : Os) (started : os.Started) (H : Type) (enc : TypeId × Value → H) :
    ReturnsInHanded {} Try.checked os 6 .any (Rows.wordSumsSpec.pre6 enc Try.prog Try.f6 Rows.wordSumsRow.domain false) (Rows.wordSumsSpec.post enc Try.prog Try.f6 false true false false) := by
  refine returnsInHanded_of_change (C := Try.checked) own started (by kernel_rfl) Try.func6
    (ChangeSpec.witness6 (enc := enc) (C := Try.checked) false ⟨#[], #[.slice none 0 0], []⟩ 8 (by kernel_rfl) (by kernel_rfl) (by kernel_rfl) (by kernel_rfl)) ?_
  intro W base args ds gs before hval0 hW hcnd _
  have hval : ∀ (j : Nat) t v, Try.f6.params[j]? = some t → args[j]? = some v → Value.okWide Try.prog W .any base t v := hval0
  have hW' := hW
  obtain ⟨p, q, hA0, hV, rfl, hfz, hnd⟩ := hW
  have hA : DataW.TrodAll enc Try.prog W 0 (fun _ => true) true Try.f6.params.toList args.toList ds p := hA0
  rw [Try.params6] at hA hval
  obtain ⟨v0, vs0, d0, ds0, p0, q0, hargs, rfl, rfl, h0, r0⟩ := trodAll_cons hA
  obtain ⟨rfl, rfl, rfl⟩ := trodAll_nil r0
  obtain rfl : args = #[v0] := by cases args; simp_all
  obtain ⟨rfl, rfl⟩ := trodVars_none hV
  obtain ⟨a0, len0, cap0, rfl⟩ := okWide_slice Try.underlying44 (hval 0 44 v0 rfl rfl)
  have k0 := h0
  have lt0 : ∀ x ∈ p0, x.block < W.heap.size := by obtain ⟨m, hm⟩ := k0; exact DataW.trod_lt m _ _ _ hm
  obtain ⟨l0, rfl, b0, m0⟩ := Wd.open_parts h0
  clear hA0 hval0
  refine (sums_walk W a0 l0 cap0 b0 m0).mono fun e W' ⟨he, bel⟩ => ?_
  subst he
  exact ⟨_, rfl, _, _, _, [], _, [], hW', trodAll_mk1 (shut_bool Try.underlying4 _), (trodAll_cons_mk (Below.trod laidOut (by kernel_rfl) (of_decide_eq_true (by kernel_rfl)) k0 bel lt0) (trodAll_mk0)), rfl, bel.frame _, fun h => by cases h⟩

/-- The statement WordSums. -/
theorem wordSums_holds : Rows.WordSumsSaid :=
  OpenClaim.holds_of_wide 6 Try.f6 rfl rfl rfl rfl rfl rfl rfl ⟨rfl, rfl, rfl, rfl, rfl⟩ rfl rfl rfl rfl rfl (by kernel_rfl) Try.func6 (by kernel_rfl)
    (of_decide_eq_true (by kernel_rfl)) (by unfold Func.isWrapper; first | (rw [if_pos (by decide +kernel)]; kernel_rfl) | (rw [if_neg (by decide +kernel)]; exact ⟨rfl, rfl⟩))
    (fun os started H enc _ => wordSums_lifted os started H enc)
#print axioms wordSums_holds

end Go.Proofs.Ytjnenicaheppeaa
