/- The table's find. -/
import Derived.Test.YtmcekicaigbccaaGreatFlTab
import Derived.Test.YtmcekicaigbccaaGreatFlRFind
import Derived.Test.YtmcekicaigbccaaGreatFlNewR
namespace Go.Proofs.YtmcekicaigbccaaGreat
open Go.RowKit Go.WideMaps
set_option linter.unusedVariables false

namespace Fl
theorem zInt (w : World) : (zeroValue 3).run Tryz.prog w = .ok (.int .i64 0) w := by kernel_rfl
theorem zTup (w : World) : (zeroValue 3).run Tryz.prog w = .ok (.int .i64 0) w := zInt w
/-- The key of a car and a number as a flight's. -/
def kf (car : ByteArray) (num : Int) : F := { (default : F) with car := car, num := num }
theorem kv_kf (car : ByteArray) (num : Int) : kv (kf car num) = .agg #[.string car, .int .i64 num] := rfl
theorem kv_isK {f : F} {car : ByteArray} {num : Int} : kv f = kv (kf car num) ↔ isK f car num = true := by
  constructor
  · intro h
    obtain ⟨h1, h2⟩ := kv_inj h
    simp [isK]
    exact ⟨h1, h2⟩
  · intro h
    obtain ⟨h1, h2⟩ := isK_yes h
    simp [kv, kf, h1, h2]
theorem tab_uniq {rs : List R} (hn : (ks rs).Nodup) {i j : Nat} (hi : i < rs.length) (hj : j < rs.length) {car : ByteArray} {num : Int} (h1 : isK rs[i].f car num = true) (h2 : isK rs[j].f car num = true) : i = j := by
  have e : kv rs[i].f = kv rs[j].f := (kv_isK.2 h1).trans (kv_isK.2 h2).symm
  have hl : ∀ {k} (hk : k < rs.length), k < (ks rs).length := fun hk => by simpa [ks] using hk
  rcases Nat.lt_trichotomy i j with h | h | h
  · exact absurd (by simpa [ks] using e) (List.pairwise_iff_getElem.1 hn i j (hl hi) (hl hj) h)
  · exact h
  · exact absurd (by simpa [ks] using e.symm) (List.pairwise_iff_getElem.1 hn j i (hl hj) (hl hi) h)
/-- The look into the index. -/
theorem look_tab {w : World} {m : Nat} {rs : List R} (hn : (ks rs).Nodup) (hm : Mp.MapL Tryz.prog 32 w m (ent rs)) {car : ByteArray} {num : Int} (hs : car.size ≤ 9223372036854775807) (h0 : -9223372036854775808 ≤ num) (h1 : num ≤ 9223372036854775807) :
    (∃ (j : Nat) (hj : j < rs.length), isK rs[j].f car num = true ∧ ∀ W : World, W.heap[m]? = w.heap[m]? → (Instr.lookup 107 (.map (some m)) (.agg #[.string car, .int .i64 num]) true).run Tryz.prog W = .ok (.tuple #[.int .i64 j, .bool true]) W) ∨
    ((∀ r ∈ rs, isK r.f car num = false) ∧ ∀ W : World, W.heap[m]? = w.heap[m]? → (Instr.lookup 107 (.map (some m)) (.agg #[.string car, .int .i64 num]) true).run Tryz.prog W = .ok (.tuple #[.int .i64 0, .bool false]) W) := by
  have hk : Mp.KeyIs Tryz.prog 32 (kv (kf car num)) := kv_key (f := kf car num) hs h0 h1
  rw [← kv_kf]
  have hat : ∀ (j2 : Nat) (v : Value), (ent rs)[j2]? = some (kv (kf car num), v) → ∃ hj : j2 < rs.length, isK rs[j2].f car num = true ∧ v = .int .i64 j2 := fun j2 v h2 => by
    have hj2 : j2 < rs.length := by have := (List.getElem?_eq_some_iff.1 h2).1; rwa [ent_len] at this
    rw [ent_get rs j2 hj2] at h2
    injection h2 with h2
    injection h2 with h2 h3
    exact ⟨hj2, kv_isK.1 h2, h3.symm⟩
  by_cases hex : ∃ r ∈ rs, isK r.f car num = true
  · obtain ⟨r, hr, hi⟩ := hex
    obtain ⟨j, hj, rfl⟩ := List.getElem_of_mem hr
    refine .inl ⟨j, hj, hi, fun W hW => ?_⟩
    rcases (hm.kept hW).look lawKey hk uMap _ (zInt W) with ⟨j2, v, h2, hrn⟩ | ⟨h2, _⟩
    · obtain ⟨hj2, hi2, rfl⟩ := hat j2 v h2
      have := tab_uniq hn hj hj2 hi hi2
      subst this
      exact hrn
    · exact absurd (kv_isK.2 hi) (h2 _ (List.mem_iff_getElem?.2 ⟨j, ent_get _ _ hj⟩))
  · refine .inr ⟨fun r hr => ?_, fun W hW => ?_⟩
    · cases hc : isK r.f car num with
      | false => rfl
      | true => exact absurd ⟨r, hr, hc⟩ hex
    · rcases (hm.kept hW).look lawKey hk uMap _ (zInt W) with ⟨j2, v, h2, hrn⟩ | ⟨h2, hrn⟩
      · obtain ⟨hj2, hi2, rfl⟩ := hat j2 v h2
        exact absurd ⟨_, List.getElem_mem hj2, hi2⟩ hex
      · exact hrn
/-- What the table's find answers. -/
def TFindIs (w : World) (rs : List R) (car : ByteArray) (num : Int) (e : Ending) (w' : World) : Prop :=
  ((∃ (j : Nat) (hj : j < rs.length), isK rs[j].f car num = true ∧ e = .returned (.tuple #[fv rs[j], .bool true])) ∨
   ((∀ r ∈ rs, isK r.f car num = false) ∧ e = .returned (.tuple #[fv r0, .bool false]))) ∧ Below w.heap.size w w'
end Fl
set_option maxHeartbeats 1000000 in
set_option maxRecDepth 20000 in
theorem find_any (base p : Nat) (rs : List Fl.R) (car : ByteArray) (num : Int) (w : World) (h : Fl.Tab w base p rs) (hs : car.size ≤ 9223372036854775807) (h0 : -9223372036854775808 ≤ num) (h1 : num ≤ 9223372036854775807) (hl : rs.length ≤ 1000000) :
    Calls Tryz.prog 66 #[.pointer (some ⟨p, 0, none⟩), .agg #[.string car, .int .i64 num]] w (Fl.TFindIs w rs car num) := by
  obtain ⟨⟨A, cap, m, HB, HO, HM, hm0⟩, hlo, hnod, _⟩ := h
  have HLK := Lib.hid (Fl.look_tab hnod HM hs h0 h1)
  have HML := HM.lt
  have HBL := HB.lt
  have HBh := Lib.hid HB
  have HOh := Lib.hid HO
  clear HM hs h0 h1 hnod HB HO
  obtain ⟨w1, ew1⟩ : ∃ x, x = w.alloc (.cells #[.string car, .int .i64 num] 32) := ⟨_, rfl⟩
  have hb1 : Below w.heap.size w w1 := by rw [ew1]; exact (Below.refl _ _).alloc (Nat.le_refl _) _
  have hz1 : w1.heap.size = w.heap.size + 1 := by rw [ew1]; simp
  have K1 : Rw.Blk w1 w.heap.size 32 [.string car, .int .i64 num] := by rw [ew1]; exact heap_alloc_new w _
  go_enter Tryz.func66, Tryz.ntmps66
  go_wp2_with (first
    | (refine Rw.wpList_alloc rfl 62 rfl (Fl.enc Fl.r0) Fl.zF ?_; intro w2 K2 hb2 hz2))
  rw [← ew1] at K2 hb2 hz2
  rw [hz1] at K2 hz2
  have hz3 : w.heap.size + 1 < w2.heap.size := by omega
  have hb12 := hb1.trans (hb2.mono hb1.size)
  have HK1 := K1.below' hb2
  have HK2 := Lib.hid K2
  have HB2 := Lib.hid hb12
  have q0 : ∀ q, (w2.drewN q).cell? ⟨w.heap.size, 0, none⟩ = some (.string car) := fun q => (HK1.cell 0).trans rfl
  have q1 : ∀ q, (w2.drewN q).cell? ⟨w.heap.size, 1, none⟩ = some (.int .i64 num) := fun q => (HK1.cell 1).trans rfl
  have q2 : ∀ q, (w2.drewN q).cell? ⟨p, 1, none⟩ = some (.map (some m)) := fun q => ((HBh.out.below' hb12).cell 1).trans rfl
  have HBp := Lib.hid (HBh.out.below' hb12)
  have HO2 := Lib.hid (HOh.out.below hb12)
  have hmm := hb12.block m HML
  have HX : Hid (∀ (e : Ending), ((∃ (j : Nat) (hj : j < rs.length), Fl.isK rs[j].f car num = true ∧ e = .returned (.tuple #[Fl.fv rs[j], .bool true])) ∨ ((∀ r ∈ rs, Fl.isK r.f car num = false) ∧ e = .returned (.tuple #[Fl.fv Fl.r0, .bool false]))) → ∀ w', Below w.heap.size w w' → Fl.TFindIs w rs car num e w') := fun e he w' hb => ⟨he, hb⟩
  clear hb1 hb2 ew1 K1 K2 HK1 hz1 hz2
  rcases HLK.out with ⟨j, hj, hi, hrun⟩ | ⟨hno, hrun⟩
  · have hlk : ∀ q, (Instr.lookup 107 (.map (some m)) (.agg #[.string car, .int .i64 num]) true).run Tryz.prog (w2.drewN q) = .ok (.tuple #[.int .i64 j, .bool true]) (w2.drewN q) := fun q => hrun _ hmm
    clear hrun HLK hmm
    have HI := Lib.hid hi
    clear hi
    go_quiet (fail)
    obtain ⟨wy, ewy⟩ : ∃ x, x = w2.drewN nq := ⟨_, rfl⟩
    have hby : Below w2.heap.size w2 wy := by rw [ewy]; exact Fl.below_drewN (Below.refl _ _) _
    obtain ⟨b, hA, hbB, hrow⟩ := HO2.out.at j hj
    have HRy : Hid (wy.rangeAt b (j * 9) (Fl.enc rs[j])) := fun i v hv => (hby.cell (p := ⟨b, _, none⟩) hbB).trans (hrow i v hv)
    have cp : wy.cell? ⟨p, 0, none⟩ = some (.slice A rs.length cap) := ((HBp.out.below' hby).cell 0).trans rfl
    have HKy := Lib.hid (HK2.out.below' hby)
    have HY := Lib.hid (HX.out (.returned (.tuple #[Fl.fv rs[j], .bool true])) (.inl ⟨j, hj, HI.out, rfl⟩))
    rw [← ewy]
    subst hA
    generalize hr : rs[j] = r at *
    clear ewy q0 q1 q2 hlk hrow hr
    go_wp2_with (first
      | (refine wpList_load_mid rfl 62 _ rfl b (j * 9) rfl (Fl.enc r) _ HRy.out Fl.uF Fl.rF Fl.iF ?_)
      | (refine Rw.wpList_store_whole rfl 62 _ _ rfl (w.heap.size + 1) rfl (Fl.enc r) rfl _ _ HKy.out Fl.iF rfl (Fl.enc_one _) ?_; intro w5 K5 f5))
    have hc5 := K5.cell
    have hb5 : Below w.heap.size w w5 := (HB2.out.trans (hby.mono HB2.out.size)).trans (f5.below (B := w.heap.size) (Nat.le_trans HB2.out.size hby.size) (fun k hk => by have : k = w.heap.size + 1 := hk; omega))
    refine bodyPost_ret (v := .tuple #[Fl.fv r, .bool true]) ?_ rfl (HY.out _ hb5)
    simp [results, Tryz.results66, go_sem, hc5, Fl.enc, Fl.fv]
  · have hlk : ∀ q, (Instr.lookup 107 (.map (some m)) (.agg #[.string car, .int .i64 num]) true).run Tryz.prog (w2.drewN q) = .ok (.tuple #[.int .i64 0, .bool false]) (w2.drewN q) := fun q => hrun _ hmm
    clear hrun HLK hmm
    have HNo := Lib.hid hno
    clear hno
    go_quiet (fail)
    obtain ⟨wy, ewy⟩ : ∃ x, x = w2.drewN nq := ⟨_, rfl⟩
    have hby : Below w2.heap.size w2 wy := by rw [ewy]; exact Fl.below_drewN (Below.refl _ _) _
    have HKy := Lib.hid (HK2.out.below' hby)
    have HY := Lib.hid (HX.out (.returned (.tuple #[Fl.fv Fl.r0, .bool false])) (.inr ⟨HNo.out, rfl⟩))
    rw [← ewy]
    clear ewy q0 q1 q2 hlk
    go_wp2_with (first
      | (refine Rw.wpList_store_whole rfl 62 _ _ rfl (w.heap.size + 1) rfl (Fl.enc Fl.r0) rfl _ _ HKy.out Fl.iF rfl (Fl.enc_one _) ?_; intro w5 K5 f5))
    have hc5 := K5.cell
    have hb5 : Below w.heap.size w w5 := (HB2.out.trans (hby.mono HB2.out.size)).trans (f5.below (B := w.heap.size) (Nat.le_trans HB2.out.size hby.size) (fun k hk => by have : k = w.heap.size + 1 := hk; omega))
    refine bodyPost_ret (v := .tuple #[Fl.fv Fl.r0, .bool false]) ?_ rfl (HY.out _ hb5)
    simp [results, Tryz.results66, go_sem, hc5, Fl.enc, Fl.fv]
end Go.Proofs.YtmcekicaigbccaaGreat
