/- Contract of Restart. -/
import Derived.Test.YtogkaoiiddhdbaaFlush
namespace Go.Proofs.Ytogkaoiiddhdbaa
open Go.RowKit

namespace Dk
/-- The slice at A holds the bools m, in blocks of which G holds. -/
def Bls (w : World) (G : Nat → Prop) (A : Option Addr) (m : List Bool) : Prop :=
  0 < m.length → ∃ b off, A = some ⟨b, off, none⟩ ∧ G b ∧ ∀ j (hj : j < m.length), w.cell? ⟨b, off + j, none⟩ = some (.bool m[j])
theorem Bls.lt {w : World} {G : Nat → Prop} {A : Option Addr} {m : List Bool} (h : Bls w G A m) : Bls w (fun k => G k ∧ k < w.heap.size) A m := fun hl => by
  obtain ⟨b, off, e, hB, hc⟩ := h hl
  exact ⟨b, off, e, ⟨hB, World.block_lt_of_cell? w _ (hc 0 hl)⟩, hc⟩
theorem Bls.fr {w w' : World} {G F : Nat → Prop} {A : Option Addr} {m : List Bool} (h : Bls w G A m) (hf : Fr F w w') (hd : ∀ k, G k → ¬ F k) : Bls w' G A m := fun hl => by
  obtain ⟨b, off, e, ⟨hB, hlt⟩, hc⟩ := h.lt hl
  exact ⟨b, off, e, hB, fun j hj => (World.cell?_of_block (w := w) (a := ⟨b, off + j, none⟩) (hf.block b hlt (hd b hB))).trans (hc j hj)⟩
/-- The disk as it stands behind j rounds of Restart. -/
def S.mid (s : S) (m : List Bool) (j : Nat) : S := { s with safe := doneOver s.safe (kept (s.wait.take j) m) }
theorem mid_zero (s : S) (m : List Bool) : s.mid m 0 = s := by simp [S.mid, kept, doneOver_nil]
theorem mid_kept (s : S) (m : List Bool) (j : Nat) (i : Int) (b : List UInt8) (hx : s.wait[j]? = some (i, b)) (hm : m.getD j false = true) : s.mid m (j + 1) = { s.mid m j with safe := fun k => if k = i then some b else (s.mid m j).safe k } := by
  have hlt : j < s.wait.length := (List.getElem?_eq_some_iff.1 hx).1
  simp only [S.mid]
  rw [take_snoc _ j _ hx, kept_snoc, List.length_take, Nat.min_eq_left (by omega), hm, if_pos rfl, doneOver_snoc]
theorem mid_lost (s : S) (m : List Bool) (j : Nat) (i : Int) (b : List UInt8) (hx : s.wait[j]? = some (i, b)) (hm : m.getD j false = false) : s.mid m (j + 1) = s.mid m j := by
  have hlt : j < s.wait.length := (List.getElem?_eq_some_iff.1 hx).1
  simp only [S.mid]
  rw [take_snoc _ j _ hx, kept_snoc, List.length_take, Nat.min_eq_left (by omega), hm]
  simp
theorem mid_end (s : S) (m : List Bool) : ({ (s.mid m s.wait.length).forget with down := false, fused := false, left := 0 } : S) = s.restart m := by
  simp [S.mid, S.forget, S.restart]
end Dk

set_option maxRecDepth 100000 in
set_option maxHeartbeats 400000 in
theorem restart_any (w : World) (p : Nat) (F : Nat → Prop) (s : Dk.S) (A : Option Addr) (m : List Bool) (cp : Nat) (G : Nat → Prop) (h : Dk.Dsk w p F s) (hb : Dk.Bls w G A m) (hd : ∀ k, G k → ¬ F k) (hw : s.wait.length < 100000) :
    Calls Try.prog 37 #[.pointer (some ⟨p, 0, none⟩), .slice A m.length cp] w fun e w' => e = .returned noResult ∧ Hid (Dk.Gone w F w' p (s.restart m)) := by
  obtain ⟨a, c, v, hA, rfl⟩ := h
  have c2 := hA.c2
  obtain ⟨B, cap, hv⟩ := Dk.slice_of _ _ _ _ hA.row
  subst hv
  have H := Lib.hid hA
  have HB : Hid (∀ w', Dk.Fr (Dk.Own p a c (.slice B s.wait.length cap)) w w' → Dk.Bls w' G A m) := fun w' hf => hb.fr hf hd
  clear hA hb hd
  go_enter Try.func37, Try.ntmps37
  go_wp2
  go_loopw [11] (fun i wr => ∃ j : Nat, j ≤ s.wait.length ∧ i = .int .i64 j ∧ Hid (Dk.At wr p a c (.slice B s.wait.length cap) (s.mid m j)) ∧ Dk.Fr (Dk.Own p a c (.slice B s.wait.length cap)) w wr) (fun i _ => s.wait.length - (intOf i).toNat)
  case atStart => exact ⟨0, Nat.zero_le _, rfl, by rw [Dk.mid_zero]; exact H, Dk.Fr.refl _ _⟩
  case round =>
    obtain ⟨j, hj, rfl, HAj, hfj⟩ := hrel
    by_cases hlt : j < s.wait.length
    · obtain ⟨⟨k, b⟩, hx⟩ : ∃ x, s.wait[j]? = some x := ⟨_, List.getElem?_eq_getElem hlt⟩
      have HX := Lib.hid hx
      have hbl : b.length = 512 := HAj.out.okw _ (List.mem_of_getElem? hx)
      obtain ⟨g, cap', hv', _, hr⟩ := HAj.out.wr_at j k b hx
      injection hv' with hB hL hC
      subst hB
      subst hC
      have HR := Lib.hid hr
      clear hx hr hL
      by_cases hm : j < m.length
      · obtain ⟨mb, mo, rfl, hG, _⟩ := (HB.out wr hfj) (by omega)
        cases hkj : m.getD j false with
        | true =>
          have HK := Lib.hid hkj
          have hmj : m[j] = true := by simpa [List.getD, hm] using hkj
          have HC : Hid (∀ w', Dk.Fr (Dk.Own p a c (.slice (some ⟨g, 0, none⟩) s.wait.length cap)) w w' → w'.cell? ⟨mb, mo + j, none⟩ = some (.bool true)) := fun w' hf => by
            obtain ⟨b', o', e, _, hc⟩ := HB.out w' hf (by omega)
            injection e with e
            injection e with e1 e2
            subst e1
            subst e2
            rw [hc j hm, hmj]
          clear hkj hmj HB
          go_wp2_with (first
            | (refine Dk.wpList_load77 rfl _ rfl g (j * 513) (by rfl) k b hbl HR.out ?_)
            | (refine Dk.wpList_alloc rfl 122 rfl _ (Dk.z77 _) ?_; intro w2 hg2 hb2 hs2)
            | (refine Dk.wpList_store_whole rfl 122 _ _ rfl wr.heap.size rfl (Dk.wr k b) rfl _ _ hg2 (by rw [Dk.length_wr, hbl]; exact Dk.i77) (by rw [List.size_toArray, Dk.length_wr, Dk.length_wr, hbl, Dk.length_zeros]) (Dk.one_wr _ _) ?_; intro w3 hg3 hf3; obtain ⟨w4, hq, S3, S4, HA4, hf4, HA3, hf3'⟩ := HAj.out.round hb2 hs2 hf3 hg3 hbl; have hcm := HC.out w3 (hfj.trans hf3' (fun _ _ h => h)); clear hg2 hb2 hs2 hg3 hf3))
          have hu := Dk.u75
          have hi : (Try.prog.info? 120).map (·.size) = some (Dk.cells8 b).length := by rw [Dk.length_cells8, hbl]; exact Dk.i75
          go_region_held3 (fun w' => w'.cell? ⟨p, 1, none⟩ = some (.map (some a)) ∧ w'.cell? ⟨wr.heap.size, 0, none⟩ = some (.int .i64 k) ∧ w'.rangeAt wr.heap.size 1 (Dk.cells8 b)) (first | exact S3 | exact S4) (first | fail)
          go_wp2
          go_roundw
          case rel =>
            refine ⟨j + 1, by omega, by go_num, ?_, hfj.trans hf4 (fun _ _ h => h)⟩
            rw [Dk.mid_kept s m j k b HX.out HK.out]
            exact HA4
          case measure => simp [intOf]; omega
        | false =>
          have HK := Lib.hid hkj
          have hmj : m[j] = false := by simpa [List.getD, hm] using hkj
          have HC : Hid (∀ w', Dk.Fr (Dk.Own p a c (.slice (some ⟨g, 0, none⟩) s.wait.length cap)) w w' → w'.cell? ⟨mb, mo + j, none⟩ = some (.bool false)) := fun w' hf => by
            obtain ⟨b', o', e, _, hc⟩ := HB.out w' hf (by omega)
            injection e with e
            injection e with e1 e2
            subst e1
            subst e2
            rw [hc j hm, hmj]
          clear hkj hmj HB
          go_wp2_with (first
            | (refine Dk.wpList_load77 rfl _ rfl g (j * 513) (by rfl) k b hbl HR.out ?_)
            | (refine Dk.wpList_alloc rfl 122 rfl _ (Dk.z77 _) ?_; intro w2 hg2 hb2 hs2)
            | (refine Dk.wpList_store_whole rfl 122 _ _ rfl wr.heap.size rfl (Dk.wr k b) rfl _ _ hg2 (by rw [Dk.length_wr, hbl]; exact Dk.i77) (by rw [List.size_toArray, Dk.length_wr, Dk.length_wr, hbl, Dk.length_zeros]) (Dk.one_wr _ _) ?_; intro w3 hg3 hf3; obtain ⟨w4, hq, S3, S4, HA4, hf4, HA3, hf3'⟩ := HAj.out.round hb2 hs2 hf3 hg3 hbl; have hcm := HC.out w3 (hfj.trans hf3' (fun _ _ h => h)); clear hg2 hb2 hs2 hg3 hf3 hq S3 S4 HA4 hf4))
          go_roundw
          case rel =>
            refine ⟨j + 1, by omega, by go_num, ?_, hfj.trans hf3' (fun _ _ h => h)⟩
            rw [Dk.mid_lost s m j k b HX.out HK.out]
            exact HA3
          case measure => simp [intOf]; omega
      · have HK := Lib.hid (show m.getD j false = false by simp [List.getD, hm])
        clear HB
        go_wp2_with (first
          | (refine Dk.wpList_load77 rfl _ rfl g (j * 513) (by rfl) k b hbl HR.out ?_)
          | (refine Dk.wpList_alloc rfl 122 rfl _ (Dk.z77 _) ?_; intro w2 hg2 hb2 hs2)
          | (refine Dk.wpList_store_whole rfl 122 _ _ rfl wr.heap.size rfl (Dk.wr k b) rfl _ _ hg2 (by rw [Dk.length_wr, hbl]; exact Dk.i77) (by rw [List.size_toArray, Dk.length_wr, Dk.length_wr, hbl, Dk.length_zeros]) (Dk.one_wr _ _) ?_; intro w3 hg3 hf3; obtain ⟨w4, hq, S3, S4, HA4, hf4, HA3, hf3'⟩ := HAj.out.round hb2 hs2 hf3 hg3 hbl; clear hg2 hb2 hs2 hg3 hf3 hq S3 S4 HA4 hf4))
        go_roundw
        case rel =>
          refine ⟨j + 1, by omega, by go_num, ?_, hfj.trans hf3' (fun _ _ h => h)⟩
          rw [Dk.mid_lost s m j k b HX.out HK.out]
          exact HA3
        case measure => simp [intOf]; omega
    · have HE := Lib.hid (show j = s.wait.length by omega)
      clear HB
      go_wp2_with (go_at_call 68; refine (forget_any wr p a c _ _ HAj.out).mono ?_; rintro e w5 ⟨rfl, H5, f5⟩; have c45 := H5.out.c4; have c55 := H5.out.c5; have c65 := H5.out.c6; have g4 := H5.out.free 4; have g5 := H5.out.free 5; have g6 := H5.out.free 6)
      have K1 := H5.out.set 4 (.bool false) { (s.mid m j).forget with down := false } rfl rfl rfl
      have K2 := K1.set 5 (.bool false) { (s.mid m j).forget with down := false, fused := false } rfl rfl rfl
      have K3 := K2.set 6 (.int .i64 0) { (s.mid m j).forget with down := false, fused := false, left := 0 } rfl rfl rfl
      rw [HE.out, Dk.mid_end] at K3
      go_end0
      refine ⟨rfl, Dk.Gone.forgot hfj (f5.trans ?_ (fun _ _ h => h)) K3⟩
      exact ((Dk.Fr.setCell _ (.inl rfl) _).trans (Dk.Fr.setCell _ (.inl rfl) _) (fun _ _ h => h)).trans (Dk.Fr.setCell _ (.inl rfl) _) (fun _ _ h => h)
end Go.Proofs.Ytogkaoiiddhdbaa
