/- Contract of add. -/
import Derived.Test.YtonfkonjkgalhaaDoorPlMap
namespace Go.Proofs.YtonfkonjkgalhaaDoor
open Go.RowKit Go.WideMaps
set_option linter.unusedVariables false

namespace Pl
/-- Behind the making of what the map holds. -/
def AddMid (w3 : World) (n : Nat) (b : Bool) (t : ByteArray) (s9 : Value) (wx : World) : Prop :=
  ∃ g, s9 = .pointer (some ⟨g, 0, none⟩) ∧ Rw.Blk wx g 75 [.int .i64 n, .bool b, .string t] ∧ w3.heap.size ≤ g ∧ Below w3.heap.size w3 wx
/-- Behind the append. -/
def AddEnd (base g m : Nat) (p : P) (l : List (Int × Nat)) (row bt : Int) (w wd wx : World) : Prop :=
  ∃ A cap, OwnS wx base (.slice A (l.length + 1) cap) (l.map (seatOf p) ++ [(row, bt)]) ∧ Rw.Blk wx g 71 [.slice A (l.length + 1) cap, .map (some m)] ∧ Below base wd wx ∧ (∀ k, w.heap.size ≤ k → k < wd.heap.size → wx.heap[k]? = wd.heap[k]?) ∧ wx.heap[m]? = wd.heap[m]?
theorem AddEnd.mk {base g m : Nat} {p : P} {l : List (Int × Nat)} {row bt : Int} {w wd w4 w5 : World} {A A5 : Option Addr} {cap c5 : Nat} (hb4 : Below wd.heap.size wd w4) (hz : w.heap.size ≤ wd.heap.size) (hbase : base ≤ w.heap.size)
    (HOB : ∀ k, (Value.slice A l.length cap).ownBlock = some k → k < w.heap.size ∧ k ≠ g ∧ k ≠ m) (hg : g < w.heap.size) (hm : m < w.heap.size) (hbg : base ≤ g) (hgm : g ≠ m)
    (HG : Rw.Blk wd g 71 [.slice A l.length cap, .map (some m)])
    (h51 : OwnS w5 base (.slice A5 (l.length + 1) c5) (l.map (seatOf p) ++ [(row, bt)])) (h52 : Below base w4 w5) (h53 : ∀ k, k < w4.heap.size → (Value.slice A l.length cap).ownBlock ≠ some k → w5.heap[k]? = w4.heap[k]?) :
    AddEnd base g m p l row bt w wd (w5.setCell ⟨g, 0, none⟩ (.slice A5 (l.length + 1) c5)) := by
  have hz4 := hb4.size
  have k5 : Rw.Blk w5 g 71 [.slice A l.length cap, .map (some m)] := (HG.below' hb4).kept (h53 g (by omega) (fun e => (HOB g e).2.1 rfl))
  have hne : ∀ gg (cur : Array Value), w5.heap[gg]? = some (Obj.cells cur 23 (0, 0)) → gg ≠ g := fun gg cur h e => by
    subst e; unfold Rw.Blk at k5; rw [k5] at h; injection h with h; injection h with _ h; exact absurd h (by decide)
  refine ⟨A5, c5, h51.kept fun gg cur h => Rw.setCell_heap _ (hne gg cur h), k5.set1 0 _, ⟨h52.os.trans hb4.os, h52.tape.trans hb4.tape, h52.output.trans hb4.output, ?_, fun k hk => ?_⟩, fun k h1 h2 => ?_, ?_⟩
  · have := h52.size; simp; omega
  · rw [Rw.setCell_heap _ (by omega), h52.block k hk, hb4.block k (by omega)]
  · rw [Rw.setCell_heap _ (by omega), h53 k (by omega) (fun e => by have := (HOB k e).1; omega), hb4.block k h2]
  · rw [Rw.setCell_heap _ (fun e => hgm e.symm), h53 m (by omega) (fun e => (HOB m e).2.2 rfl), hb4.block m (by omega)]
end Pl
set_option maxHeartbeats 2000000 in
set_option maxRecDepth 20000 in
theorem add_any (r : Pl.R) (row : Int) (i B base g : Nat) (l : List (Int × Nat)) (w : World) (hw : Pl.Wf r) (hi : i < r.p.lt.size) (he : Pl.Ints w B r.eA r.p.ex) (hbl : Pl.Sts w B r.bA r.p.bl)
    (hB : B ≤ w.heap.size) (hbase : base ≤ w.heap.size) (hm : Pl.MapAt w base g r.p l) (hnew : ∀ q ∈ l, Pl.seatOf r.p q ≠ Pl.seatOf r.p (row, i)) (hrow : Pl.WS (Pl.seatOf r.p (row, i))) (hl : l.length < 100000) :
    Calls Tryd.prog 40 #[.pointer (some ⟨g, 0, none⟩), Pl.pv r, .int .i64 row, .int .i64 i] w fun e w' => e = .returned noResult ∧ Pl.MapAt w' base g r.p (l ++ [(row, i)]) ∧ Below base w w' := by
  have hb := Cd.get_bt r.p.lt
  have hbn := hw.b
  have hsz := hw.s
  have HW := Lib.hid hw
  have HE := Lib.hid he
  have HBL := Lib.hid hbl
  have HM := Lib.hid hm
  have HNW := Lib.hid hnew
  have HRW := Lib.hid hrow
  obtain ⟨A, cap, m, H1, H2, H3, h4⟩ := hm.at_
  have h5 := hm.lo
  have HB1 := Lib.hid H1
  have HB2 := Lib.hid H2
  have HB3 := Lib.hid H3
  have hgl := H1.lt
  have hml := H3.lt
  clear H1 H2 H3 hm hnew hrow hw he hbl
  have HSO : Hid (Pl.seatOf r.p (row, i) = (row, Cd.bt r.p.lt i)) := show _ = _ by rfl
  obtain ⟨bc, hbc⟩ : ∃ c, c = r.p.bl.contains (row, Cd.bt r.p.lt i) := ⟨_, rfl⟩
  have HCT := Lib.hid (fun (W : World) (hb : Below w.heap.size w W) => containsSeats_any r.bA r.p.bl r.bc B (row, Cd.bt r.p.lt i) W (HBL.out.below hb hB) (Nat.le_trans hB hb.size) hbn)
  have HMK := Lib.hid (fun (W : World) (hb : Below w.heap.size w W) => marks_any r row i B W hsz hi (HE.out.below hb hB) (Nat.le_trans hB hb.size) HW.out.e)
  have HQ : Hid (Pl.mkq r.p (row, i) = if bc then ⟨#[]⟩ else Pl.marks r.p row i) := show _ = _ by unfold Pl.mkq; rw [HSO.out, hbc]
  have HPC : Hid (r.p.bl.contains (Pl.seatOf r.p (row, i)) = bc) := show _ = _ by rw [HSO.out, hbc]
  unfold Pl.sv at HCT
  simp only at HCT
  rw [← hbc] at HCT
  clear hbc
  generalize hmk : Pl.marks r.p row i = mk at HMK HQ
  clear hmk
  have e0 : Pl.pv r = .agg (Pl.enc r).toArray := rfl
  go_enter Tryd.func40, Tryd.ntmps40
  rw [e0]
  rw [e0] at HMK
  clear e0
  go_wp2_with (first
    | (refine Rw.wpList_box rfl 32 _ rfl (Pl.enc r) rfl ?_; intro w1 K1 b1 z1; have P2 : w1.cell? ⟨w.heap.size, 2, none⟩ = some (.string r.p.lt) := (K1.cell 2).trans rfl; have HZ1 := Lib.hid z1; clear z1)
    | (refine Rw.wpList_alloc rfl 23 rfl [.int .i64 0, .int .u8 0] Pl.zSeat ?_; intro w2 K2 b2 z2; have HZ2 := Lib.hid z2; clear z2)
    | (refine Rw.wpList_store_whole rfl 23 _ _ rfl w1.heap.size rfl [.int .i64 row, .int .u8 (Cd.bt r.p.lt i)] rfl _ _ K2 Pl.iSeat rfl (by intro v hv; simp at hv; rcases hv with rfl | rfl <;> rfl) ?_; intro w3 K3 f3))
  simp only [Act.put, List.setIfInBounds_toArray, List.set_cons_zero, List.set_cons_succ]
  have hb1 : Below w.heap.size w w1 := b1
  have hs1 := HZ1.out
  have hs2 := HZ2.out
  have hb3 : Below w.heap.size w w3 := b1.trans ((b2.trans (f3.below b2.size (fun k hk => by have : k = w1.heap.size := hk; omega))).mono (by omega))
  have HB3' := Lib.hid hb3
  have hs3 : w1.heap.size < w3.heap.size := K3.lt
  have hs0 : w.heap.size < w1.heap.size := by omega
  have HKP : Hid (Rw.Blk w3 w.heap.size 32 (Pl.enc r)) := K1.kept ((f3.block _ (by omega) (by omega)).trans (b2.block _ (by omega)))
  have HKS := Lib.hid K3
  have HKM : Hid (Pl.MapAt w3 base g r.p l) := HM.out.below hb3
  have HS : Hid (∀ w', Below w3.heap.size w3 w' → w'.cell? ⟨g, 0, none⟩ = some (.slice A l.length cap) ∧ w'.cell? ⟨w.heap.size, 4, none⟩ = some (.slice r.bA r.p.bl.length r.bc) ∧ w'.cell? ⟨w1.heap.size, 0, none⟩ = some (.int .i64 row) ∧ w'.cell? ⟨w1.heap.size, 1, none⟩ = some (.int .u8 (Cd.bt r.p.lt i))) := fun w' hb' =>
    ⟨(((HB1.out.below hb3 hgl).below' hb').cell 0).trans rfl, ((HKP.out.below' hb').cell 4).trans rfl, ((HKS.out.below' hb').cell 0).trans rfl, ((HKS.out.below' hb').cell 1).trans rfl⟩
  have HC3 := Lib.hid (fun W (hb' : Below w3.heap.size w3 W) => HCT.out W (hb3.trans (hb'.mono (by omega))))
  clear K1 K2 K3 b1 b2 f3 hb1 hb3 P2 hs1 hs2
  go_cut [9] from 10 (fun s9 wx => Hid (Pl.AddMid w3 l.length bc ⟨#[]⟩ s9 wx))
  case first =>
    refine wp_region_noPanic ?_
    refine wp_region_held_drew (S := fun w' => w'.cell? ⟨g, 0, none⟩ = some (.slice A l.length cap) ∧ w'.cell? ⟨w.heap.size, 4, none⟩ = some (.slice r.bA r.p.bl.length r.bc) ∧ w'.cell? ⟨w1.heap.size, 0, none⟩ = some (.int .i64 row) ∧ w'.cell? ⟨w1.heap.size, 1, none⟩ = some (.int .u8 (Cd.bt r.p.lt i))) (by kernel_rfl) (HS.out _ (Below.refl _ _).drew) (fun hHeld => ?_)
    refine wpAnyH_take (i := 0) (oi := ⟨(some 16), _, _, _, _, _⟩) (v := ?_) rfl (by kernel_rfl) (by kernel_rfl) (by kernel_rfl) (fun _ _ _ h => h) (Or.inl ⟨by rfl, ?_⟩) (by assumption) ?_
    rotate_left
    · (intro w hSw; (try dsimp only at hSw); go_simp <;> with_reducible rfl)
    try simp only [Act.put]
    try simp only [List.setIfInBounds_toArray]
    try simp only [List.set_cons_succ]
    try simp only [List.set_cons_zero]
    refine wpAnyH_take (i := 1) (oi := ⟨(some 17), _, _, _, _, _⟩) (v := ?_) rfl (by kernel_rfl) (by kernel_rfl) (by kernel_rfl) (fun _ _ _ h => h) (Or.inl ⟨by rfl, ?_⟩) (by assumption) ?_
    rotate_left
    · (intro w hSw; (try dsimp only at hSw); go_simp <;> with_reducible rfl)
    try simp only [Act.put]
    try simp only [List.setIfInBounds_toArray]
    try simp only [List.set_cons_succ]
    try simp only [List.set_cons_zero]
    refine wpAnyH_take (i := 2) (oi := ⟨(some 18), _, _, _, _, _⟩) (v := ?_) rfl (by kernel_rfl) (by kernel_rfl) (by kernel_rfl) (fun _ _ _ h => h) (Or.inl ⟨by rfl, ?_⟩) (by assumption) ?_
    rotate_left
    · (intro w hSw; (try dsimp only at hSw); go_simp <;> with_reducible rfl)
    try simp only [Act.put]
    try simp only [List.setIfInBounds_toArray]
    try simp only [List.set_cons_succ]
    try simp only [List.set_cons_zero]
    refine wpAnyH_take (i := 3) (oi := ⟨(some 19), _, _, _, _, _⟩) (v := ?_) rfl (by kernel_rfl) (by kernel_rfl) (by kernel_rfl) (fun _ _ _ h => h) (Or.inl ⟨by rfl, ?_⟩) (by assumption) ?_
    rotate_left
    · (intro w hSw; (try dsimp only at hSw); go_simp <;> with_reducible rfl)
    try simp only [Act.put]
    try simp only [List.setIfInBounds_toArray]
    try simp only [List.set_cons_succ]
    try simp only [List.set_cons_zero]
    refine wpAnyH_take (i := 4) (oi := ⟨(some 20), _, _, _, _, _⟩) (v := ?_) rfl (by kernel_rfl) (by kernel_rfl) (by kernel_rfl) (fun _ _ _ h => h) (Or.inl ⟨by rfl, ?_⟩) (by assumption) ?_
    rotate_left
    · (intro w hSw; (try dsimp only at hSw); go_simp <;> with_reducible rfl)
    try simp only [Act.put]
    try simp only [List.setIfInBounds_toArray]
    try simp only [List.set_cons_succ]
    try simp only [List.set_cons_zero]
    refine wpAnyH_take (i := 5) (oi := ⟨(some 21), _, _, _, _, _⟩) (v := ?_) rfl (by kernel_rfl) (by kernel_rfl) (by kernel_rfl) (fun _ _ _ h => h) (Or.inl ⟨by rfl, ?_⟩) (by assumption) ?_
    rotate_left
    · (intro w hSw; (try dsimp only at hSw); go_simp <;> with_reducible rfl)
    try simp only [Act.put]
    try simp only [List.setIfInBounds_toArray]
    try simp only [List.set_cons_succ]
    try simp only [List.set_cons_zero]
    refine wpAnyH_take (i := 6) (oi := ⟨(some 22), _, _, _, _, _⟩) (v := ?_) rfl (by kernel_rfl) (by kernel_rfl) (by kernel_rfl) (fun _ _ _ h => h) (Or.inl ⟨by rfl, ?_⟩) (by assumption) ?_
    rotate_left
    · (intro w hSw; (try dsimp only at hSw); go_simp <;> with_reducible rfl)
    try simp only [Act.put]
    try simp only [List.setIfInBounds_toArray]
    try simp only [List.set_cons_succ]
    try simp only [List.set_cons_zero]
    refine wpAnyH_take (i := 7) (oi := ⟨(some 23), _, _, _, _, _⟩) (v := ?_) rfl (by kernel_rfl) (by kernel_rfl) (by kernel_rfl) (fun _ _ _ h => h) (Or.inl ⟨by rfl, ?_⟩) (by assumption) ?_
    rotate_left
    · (intro w hSw; (try dsimp only at hSw); go_simp <;> with_reducible rfl)
    try simp only [Act.put]
    try simp only [List.setIfInBounds_toArray]
    try simp only [List.set_cons_succ]
    try simp only [List.set_cons_zero]
    refine wpAnyH_ready (rs := [8, 10]) (by kernel_rfl) (by simp) ?_
    refine AllReadyH.cons (o := ⟨(some 24), _, _, _, _, _⟩) rfl (fun K hK => ?_) (AllReadyH.cons (o := ⟨(some 9), _, _, _, _, _⟩) rfl (fun K hK => ?_) (AllReadyH.nil))
    · go_simp
      go_at_call 48
      refine (HC3.out _ (Below.refl _ _).drew).mono ?_
      rintro e w5 ⟨rfl, hb5⟩
      go_wp2_with fail
      refine hK.out _ _ ?_ (fun hHeld2 => ?_)
      · exact HS.out _ ((Below.refl _ _).drew.trans hb5)
      clear hK K
      try simp only [Act.put]
      try simp only [List.setIfInBounds_toArray]
      try simp only [List.set_cons_succ]
      try simp only [List.set_cons_zero]
      refine wpAnyH_take (i := 9) (oi := ⟨(some 25), _, _, _, _, _⟩) (v := ?_) rfl (by kernel_rfl) (by kernel_rfl) (by kernel_rfl) (fun _ _ _ h => h) (Or.inl ⟨by rfl, ?_⟩) (by assumption) ?_
      rotate_left
      · (intro w hSw; (try dsimp only at hSw); go_simp <;> with_reducible rfl)
      try simp only [Act.put]
      try simp only [List.setIfInBounds_toArray]
      try simp only [List.set_cons_succ]
      try simp only [List.set_cons_zero]
      refine wpAnyH_ready (rs := [10]) (by kernel_rfl) (by simp) ?_
      refine AllReadyH.cons (o := ⟨(some 9), _, _, _, _, _⟩) rfl (fun K hK => ?_) (AllReadyH.nil)
      refine Rw.wp_alloc 75 rfl [.int .i64 0, .bool false, .string ⟨#[]⟩] Pl.zPlace ?_
      intro w6 K6 b6 z6
      have b6a : Below w3.heap.size w3 w6 := ((Below.refl _ _).drew.trans hb5).trans (b6.mono hb5.size)
      refine hK.out _ _ ?_ (fun hHeld2 => ?_)
      · exact HS.out _ b6a
      clear hK K
      try simp only [Act.put]
      try simp only [List.setIfInBounds_toArray]
      try simp only [List.set_cons_succ]
      try simp only [List.set_cons_zero]
      refine wpAnyH_ready (rs := [11]) (by kernel_rfl) (by simp) ?_
      refine AllReadyH.cons (o := ⟨none, _, _, _, _, _⟩) rfl (fun K hK => ?_) (AllReadyH.nil)
      refine Rw.wp_store_whole 75 (.tmp 9) (.tmp 25) rfl w5.heap.size rfl [.int .i64 l.length, .bool bc, .string ⟨#[]⟩] rfl _ _ K6 Pl.iPlace rfl (by intro v hv; simp at hv; rcases hv with rfl | rfl | rfl <;> rfl) ?_
      intro w7 K7 f7
      have b7 : Below w3.heap.size w3 w7 := b6a.trans (f7.below (Nat.le_trans hb5.size b6.size) (fun k hk => by have h1 : k = w5.heap.size := hk; have h2 := hb5.size; exact h1 ▸ h2))
      refine hK.out _ _ ?_ (fun hHeld2 => ?_)
      · exact HS.out _ b7
      clear hK K
      try simp only [Act.put]
      try simp only [List.setIfInBounds_toArray]
      try simp only [List.set_cons_succ]
      try simp only [List.set_cons_zero]
      refine wpAnyH_done (by kernel_rfl) ?_ _
      refine NoPanic.normal ?_
      go_wp2
      go_meet
      exact ⟨_, rfl, K7, hb5.size, b7⟩
    · refine Rw.wp_alloc 75 rfl [.int .i64 0, .bool false, .string ⟨#[]⟩] Pl.zPlace ?_
      intro w6 K6 b6 z6
      have b6a : Below w3.heap.size w3 w6 := (Below.refl _ _).drew.trans b6
      refine hK.out _ _ ?_ (fun hHeld2 => ?_)
      · exact HS.out _ b6a
      clear hK K
      try simp only [Act.put]
      try simp only [List.setIfInBounds_toArray]
      try simp only [List.set_cons_succ]
      try simp only [List.set_cons_zero]
      refine wpAnyH_ready (rs := [8]) (by kernel_rfl) (by simp) ?_
      refine AllReadyH.cons (o := ⟨(some 24), _, _, _, _, _⟩) rfl (fun K hK => ?_) (AllReadyH.nil)
      go_simp
      go_at_call 48
      refine (HC3.out _ b6a).mono ?_
      rintro e w5 ⟨rfl, hb5⟩
      have K6b := K6.below' hb5
      have b5a : Below w3.heap.size w3 w5 := b6a.trans (hb5.mono b6a.size)
      go_wp2_with fail
      refine hK.out _ _ ?_ (fun hHeld2 => ?_)
      · exact HS.out _ b5a
      clear hK K
      try simp only [Act.put]
      try simp only [List.setIfInBounds_toArray]
      try simp only [List.set_cons_succ]
      try simp only [List.set_cons_zero]
      refine wpAnyH_take (i := 9) (oi := ⟨(some 25), _, _, _, _, _⟩) (v := ?_) rfl (by kernel_rfl) (by kernel_rfl) (by kernel_rfl) (fun _ _ _ h => h) (Or.inl ⟨by rfl, ?_⟩) (by assumption) ?_
      rotate_left
      · (intro w hSw; (try dsimp only at hSw); go_simp <;> with_reducible rfl)
      try simp only [Act.put]
      try simp only [List.setIfInBounds_toArray]
      try simp only [List.set_cons_succ]
      try simp only [List.set_cons_zero]
      refine wpAnyH_ready (rs := [11]) (by kernel_rfl) (by simp) ?_
      refine AllReadyH.cons (o := ⟨none, _, _, _, _, _⟩) rfl (fun K hK => ?_) (AllReadyH.nil)
      refine Rw.wp_store_whole 75 (.tmp 9) (.tmp 25) rfl w3.heap.size rfl [.int .i64 l.length, .bool bc, .string ⟨#[]⟩] rfl _ _ K6b Pl.iPlace rfl (by intro v hv; simp at hv; rcases hv with rfl | rfl | rfl <;> rfl) ?_
      intro w7 K7 f7
      have b7 : Below w3.heap.size w3 w7 := b5a.trans (f7.below b5a.size (fun k hk => by have h1 : k = w3.heap.size := hk; omega))
      refine hK.out _ _ ?_ (fun hHeld2 => ?_)
      · exact HS.out _ b7
      clear hK K
      try simp only [Act.put]
      try simp only [List.setIfInBounds_toArray]
      try simp only [List.set_cons_succ]
      try simp only [List.set_cons_zero]
      refine wpAnyH_done (by kernel_rfl) ?_ _
      refine NoPanic.normal ?_
      go_wp2
      go_meet
      exact ⟨_, rfl, K7, Nat.le_refl _, b7⟩
  case rest =>
    obtain ⟨wb, ewb⟩ : ∃ wb, wb = wc := ⟨_, rfl⟩
    subst ewb
    obtain ⟨g9, rfl, HP9, hg9, hb9⟩ := hcut.out
    have KP9 := Lib.hid HP9
    have c91 : wb.cell? ⟨g9, 1, none⟩ = some (.bool bc) := (HP9.cell 1).trans rfl
    have HB9 : Hid (Below w.heap.size w wb) := HB3'.out.trans (hb9.mono (by omega))
    have hz9 := hb9.size
    have HQp : Hid (Rw.Blk wb w.heap.size 32 (Pl.enc r)) := HKP.out.below' hb9
    have HMKb := Lib.hid (HMK.out wb HB9.out)
    have HB9' := Lib.hid hb9
    clear HP9 hcut hb9
    go_upto_if 28 with (fail)
    go_cut [9] from 10 (fun s9 wx => Hid (s9 = .pointer (some ⟨g9, 0, none⟩) ∧ Rw.Blk wx g9 75 (Pl.plc r.p l.length (row, i)) ∧ Below w3.heap.size w3 wx))
    case first =>
      cases bc with
      | true =>
        go_wp2
        go_meet
        refine ⟨rfl, ?_, HB9'.out⟩
        have h1 := HQ.out
        have h2 := KP9.out
        unfold Pl.plc
        rw [HPC.out, h1]
        exact h2
      | false =>
        go_wp2_with (first
          | (refine wpList_load_mid rfl 32 _ rfl w.heap.size 0 rfl (Pl.enc r) _ HQp.out.range Pl.uP Pl.rP Pl.iP ?_)
          | (go_at_call 49; refine HMKb.out.mono ?_; rintro e w10 ⟨rfl, hb10⟩; have K10 := KP9.out.below' hb10)
          | (refine Rw.wpList_store_one rfl 9 (.tmp 33) (.tmp 32) rfl g9 2 rfl (.string mk) rfl rfl _ _ K10 Pl.iText (by simp) rfl ?_; intro w11 K11 f11))
        go_meet
        refine ⟨rfl, ?_, (HB9'.out.trans (hb10.mono hz9)).trans (f11.below (Nat.le_trans hz9 hb10.size) (fun k hk => by have h1 : k = g9 := hk; omega))⟩
        have h1 := HQ.out
        unfold Pl.plc
        rw [HPC.out, h1]
        exact K11
    case rest =>
      obtain ⟨wd, ewd⟩ : ∃ wd, wd = wc := ⟨_, rfl⟩
      subst ewd
      obtain ⟨rfl, KP, hbd⟩ := hcut.out
      have HKP2 := Lib.hid KP
      have hzd := hbd.size
      have HKS2 := Lib.hid (HKS.out.below' hbd)
      have hb0 : Below w.heap.size w wd := HB3'.out.trans (hbd.mono (by omega))
      have HB0 := Lib.hid hb0
      have HOW := Lib.hid (HB2.out.below hb0)
      have HBg := Lib.hid (HB1.out.below' hb0)
      have HMp := Lib.hid (HB3.out.kept (hb0.block m hml))
      have hz0 := hb0.size
      have hOB : ∀ k, (Value.slice A l.length cap).ownBlock = some k → k < w.heap.size ∧ k ≠ g ∧ k ≠ m := fun k hk => by
        obtain ⟨_, h2, cur, h3⟩ := HB2.out.blk k hk
        refine ⟨h2, fun e => ?_, fun e => ?_⟩
        · subst e; have := HB1.out; unfold Rw.Blk at this; rw [h3] at this; injection this with this; injection this with _ this; exact absurd this (by decide)
        · subst e; obtain ⟨es, ck, h6, _⟩ := HB3.out; rw [h3] at h6; cases h6
      have HOB := Lib.hid hOB
      have hgm : g ≠ m := fun e => by subst e; obtain ⟨es, ck, h6, _⟩ := HB3.out; have := HB1.out; unfold Rw.Blk at this; rw [this] at h6; cases h6
      have hll : (l.map (Pl.seatOf r.p)).length < 100000 := by rw [List.length_map]; exact hl
      have HLN : Hid (l.length + 1 = (l.map (Pl.seatOf r.p)).length + 1) := show _ = _ by rw [List.length_map]
      have cg : wd.cell? ⟨g, 0, none⟩ = some (.slice A l.length cap) := (HBg.out.cell 0).trans rfl
      have cs0 : wd.cell? ⟨w1.heap.size, 0, none⟩ = some (.int .i64 row) := (HKS2.out.cell 0).trans rfl
      have cs1 : wd.cell? ⟨w1.heap.size, 1, none⟩ = some (.int .u8 (Cd.bt r.p.lt i)) := (HKS2.out.cell 1).trans rfl
      have cga : (wd.alloc (.cells #[.int .i64 row, .int .u8 (Cd.bt r.p.lt i)] 23)).cell? ⟨g, 0, none⟩ = some (.slice A l.length cap) := ((HBg.out.below' ((Below.refl _ _).alloc (Nat.le_refl _) _)).cell 0).trans rfl
      have HSc : Hid (∀ nq, Pl.Sc (row, Cd.bt r.p.lt i) wd.heap.size 0 ((wd.alloc (.cells #[.int .i64 row, .int .u8 (Cd.bt r.p.lt i)] 23)).drewN nq)) := fun nq => Pl.Sc.new (row, Cd.bt r.p.lt i) wd
      have hba : Below wd.heap.size wd (wd.alloc (.cells #[.int .i64 row, .int .u8 (Cd.bt r.p.lt i)] 23)) := (Below.refl _ _).alloc (Nat.le_refl _) _
      have hgs : g < (wd.alloc (.cells #[.int .i64 row, .int .u8 (Cd.bt r.p.lt i)] 23)).drew.heap.size := Nat.lt_of_lt_of_le (Nat.lt_of_lt_of_le hgl hz0) hba.size
      have hbs : base ≤ (wd.alloc (.cells #[.int .i64 row, .int .u8 (Cd.bt r.p.lt i)] 23)).drew.heap.size := Nat.le_trans (Nat.le_trans hbase hz0) hba.size
      have HOWa : Hid (∀ nq, Pl.OwnS ((wd.alloc (.cells #[.int .i64 row, .int .u8 (Cd.bt r.p.lt i)] 23)).drewN nq) base (.slice A l.length cap) (l.map (Pl.seatOf r.p))) := fun nq => (HOW.out.below (Pl.below_drewN hba nq))
      clear hcut KP hbd hb0 hOB
      go_wp2
      go_cut [9] from 10 (fun s9 wx => Hid (s9 = .pointer (some ⟨g9, 0, none⟩) ∧ Pl.AddEnd base g m r.p l row (Cd.bt r.p.lt i) w wd wx))
      case first =>
        go_region_law (first
          | (refine Rw.wp_appendS (.tmp 38) (.tmp 40) rfl base (.slice A l.length cap) (l.map (Pl.seatOf r.p)) (row, Cd.bt r.p.lt i) (HOWa.out 1) rfl wd.heap.size rfl (HSc.out 1) hll hbs (l.length + 1) HLN.out ?_; intro A5 c5 w5 h51 h52 h53; have k5 : Rw.Blk w5 g 71 [.slice A l.length cap, .map (some m)] := (HBg.out.below' hba).kept (h53.out g hgs (fun e => (HOB.out g e).2.1 rfl)); have g5 : w5.cell? ⟨g, 0, none⟩ = some (.slice A l.length cap) := (k5.cell 0).trans rfl; have f5 : w5.frozen? ⟨g, 0, none⟩ = false := k5.free 0; clear k5))
        all_goals go_wp2
        all_goals go_meet
        all_goals exact ⟨rfl, Pl.AddEnd.mk (Pl.below_drewN hba 1) hz0 hbase HOB.out hgl hml h5 hgm HBg.out h51.out h52.out h53.out⟩
      case rest =>
        obtain ⟨we, ewe⟩ : ∃ we, we = wc := ⟨_, rfl⟩
        subst ewe
        obtain ⟨rfl, HAE⟩ := hcut.out
        obtain ⟨A5, c5, H51, H52, hb53, H54, H55⟩ := HAE
        have HO5 := Lib.hid H51
        have HG5 := Lib.hid H52
        have HBb := Lib.hid hb53
        have HMe : Hid (Mp.MapL Tryd.prog 23 we.drew m (Pl.ent r.p l)) := HMp.out.kept H55
        have HSe : Hid (Rw.Blk we w1.heap.size 23 [.int .i64 row, .int .u8 (Cd.bt r.p.lt i)]) := HKS2.out.kept (H54 _ (by omega) HKS2.out.lt)
        have HPe : Hid (Rw.Blk we g9 75 (Pl.plc r.p l.length (row, i))) := HKP2.out.kept (H54 _ (by omega) HKP2.out.lt)
        have d1 : we.cell? ⟨g, 1, none⟩ = some (.map (some m)) := (HG5.out.cell 1).trans rfl
        have d2 : we.cell? ⟨w1.heap.size, 0, none⟩ = some (.int .i64 row) := (HSe.out.cell 0).trans rfl
        have d3 : we.cell? ⟨w1.heap.size, 1, none⟩ = some (.int .u8 (Cd.bt r.p.lt i)) := (HSe.out.cell 1).trans rfl
        have d4 : we.cell? ⟨g9, 0, none⟩ = some (.int .i64 l.length) := (HPe.out.cell 0).trans rfl
        have d5 : we.cell? ⟨g9, 1, none⟩ = some (.bool (r.p.bl.contains (Pl.seatOf r.p (row, i)))) := (HPe.out.cell 1).trans rfl
        have d6 : we.cell? ⟨g9, 2, none⟩ = some (.string (Pl.mkq r.p (row, i))) := (HPe.out.cell 2).trans rfl
        obtain ⟨w6, l6, hrun, HM6, HOn, HU⟩ := HMe.out.upd Pl.lawKey (Pl.sv_key HRW.out) Pl.uMap (.agg (Pl.plc r.p l.length (row, i)).toArray)
        have HU6 : Hid (l6 = Pl.ent r.p (l ++ [(row, i)])) := show _ = _ by
          rcases HU with ⟨_, rfl⟩ | ⟨j, u, hj, _⟩
          · rw [Pl.ent_append]
          · obtain ⟨j2, hj2, e2⟩ := Pl.ent_mem (List.mem_iff_getElem?.2 ⟨j, hj⟩)
            injection e2 with e2 _
            exact absurd (Pl.sv_inj e2).symm (HNW.out _ (List.getElem_mem hj2))
        have HMA : Hid (Pl.MapAt w6 base g r.p (l ++ [(row, i)])) := by
          have hne : ∀ (gg : Nat) (cur : Array Value) (t : TypeId), we.heap[gg]? = some (Obj.cells cur t (0, 0)) → w6.heap[gg]? = we.heap[gg]? := fun gg cur t hg => HOn.block gg (fun e => by subst e; obtain ⟨es, ck, h, _⟩ := HMe.out; exact absurd (h.symm.trans hg) (by simp))
          refine ⟨⟨A5, c5, m, ?_, ?_, ?_, h4⟩, h5⟩
          · rw [List.length_append]; exact HG5.out.kept (hne g _ _ HG5.out)
          · rw [List.map_append, List.length_append]; exact HO5.out.kept fun gg cur hg => hne gg cur _ hg
          · rw [← HU6.out]; exact HM6
        have HBe : Hid (Below base w w6) := (HB0.out.mono hbase).trans ((HBb.out.drew).trans (HOn.below h4))
        have e1 : Pl.sv (Pl.seatOf r.p (row, i)) = .agg #[.int .i64 row, .int .u8 (Cd.bt r.p.lt i)] := rfl
        rw [e1] at hrun
        unfold Pl.plc at hrun
        generalize r.p.bl.contains (Pl.seatOf r.p (row, i)) = bq at *
        generalize Pl.mkq r.p (row, i) = tq at *
        clear hcut H51 H52 hb53 H54 H55 HM6 HOn HU e1 cg cga cs0 cs1
        go_wp2
        go_region
        all_goals go_wp2
        all_goals go_end0
        all_goals exact ⟨rfl, HMA.out, HBe.out⟩
end Go.Proofs.YtonfkonjkgalhaaDoor
