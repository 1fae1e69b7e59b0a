/- Contract of begin. -/
import Derived.Test.YtogkaoiiddhdbaaLog
namespace Go.Proofs.Ytogkaoiiddhdbaa
open Go.RowKit

namespace Wl
/-- The log at q, new records in R2 taken in. -/
def Begun (w : World) (q p : Nat) (FD R R2 : Nat → Prop) (t : L) (w' : World) : Prop := ∃ FD' R' v', LgAt w' q p FD' R' v' t ∧ Dk.Fr (FF q FD R) w w' ∧ (∀ k, FD' k → FD k ∨ w.heap.size ≤ k) ∧ (∀ k, R' k → R k ∨ R2 k)
theorem LgAt.done {w : World} {q p : Nat} {FD R R2 : Nat → Prop} {v v2 : Value} {t : L} {rs2 : List (List UInt8)} (h : LgAt w q p FD R v t) (hR : RwsR w R2 v2 rs2) (hq2 : ¬ R2 q) (hf2 : ∀ k, FD k → ¬ R2 k) (hrl : ∀ k, R2 k → k < w.heap.size) (g : Nat) (room : Int) :
    LgAt (((w.setCell ⟨q, 1, none⟩ (.int .u32 (g : Int))).setCell ⟨q, 2, none⟩ v2).setCell ⟨q, 3, none⟩ (.int .i64 room)) q p FD R2 v2 { d := t.d, g := g, rs := rs2, room := room, closed := t.closed } := by
  have hk : ∀ k, k ≠ q → (((w.setCell ⟨q, 1, none⟩ (.int .u32 (g : Int))).setCell ⟨q, 2, none⟩ v2).setCell ⟨q, 3, none⟩ (.int .i64 room)).heap[k]? = w.heap[k]? := fun k hk => by
    rw [Below.heap_setCell _ _ _ _ hk, Below.heap_setCell _ _ _ _ hk, Below.heap_setCell _ _ _ _ hk]
  have h1 := Dk.set_row h.str 1 (.int .u32 (g : Int))
  have h2 := Dk.set_row h1 2 v2
  have h3 := Dk.set_row h2 3 (.int .i64 room)
  refine ⟨h3, h.dsk.kept (fun k hk' => hk k (fun e => h.qf (e ▸ hk'))), hR.kept (fun k hk' => hk k (fun e => hq2 (e ▸ hk'))), h.qf, hq2, hf2, fun k hk' => ?_⟩
  have := hrl k hk'
  simp [World.setCell]
  exact this
theorem Fr.done (w : World) (q : Nat) (FD R : Nat → Prop) (a b c : Value) : Dk.Fr (FF q FD R) w (((w.setCell ⟨q, 1, none⟩ a).setCell ⟨q, 2, none⟩ b).setCell ⟨q, 3, none⟩ c) :=
  ((Dk.Fr.setCell w (.inl rfl) a).trans (Dk.Fr.setCell _ (.inl rfl) b) (fun _ _ h => h)).trans (Dk.Fr.setCell _ (.inl rfl) c) (fun _ _ h => h)
theorem all_snoc (g : Nat) (l : List (List UInt8)) (j : Nat) (h : j < l.length) : allFrom g 0 (l.take j) ++ pieces g j l[j] = allFrom g 0 (l.take (j + 1)) := by
  rw [← take_snoc l j h, allFrom_append, List.length_take, Nat.min_eq_left (by omega), Nat.zero_add]
  simp [allFrom]
theorem needs_take (l : List (List UInt8)) (j : Nat) : needs (l.take j) ≤ needs l := by
  have := needs_append (l.take j) (l.drop j)
  rw [List.take_append_drop] at this
  omega
theorem len_allFrom (g : Nat) : ∀ (l : List (List UInt8)) (num : Nat), ∀ x ∈ allFrom g num l, x.length = 512
  | [], _, x, h => by simp [allFrom] at h
  | r :: l, num, x, h => by
    rcases List.mem_append.1 h with h | h
    · simp only [pieces, List.mem_map] at h
      obtain ⟨i, _, rfl⟩ := h
      exact length_piece _ _ _ _
    · exact len_allFrom g l (num + 1) x h
theorem prts_lit1 (w : World) (k n c g : Nat) (l : List UInt8) (hk : k < w.heap.size) (h : Dk.Row w k 5 l) (hn : n = l.length) (hc : n ≤ c) (hg : g = w.heap.size) :
    Prts (w.alloc (.cells #[.slice (some ⟨k, 0, none⟩) n c] 40)) (fun q => q = k ∨ q = w.heap.size) (some ⟨g, 0, none⟩) [l] := fun _ => by
  subst hn hg
  refine ⟨w.heap.size, 0, rfl, .inr rfl, fun j hj => ?_⟩
  obtain rfl : j = 0 := by simpa using hj
  refine ⟨some ⟨k, 0, none⟩, c, cell_of_row _ _ 0 _ _ _ (heap_alloc_new w _), ?_, by simp, hc⟩
  exact Bts.mono ((h.kept (Below.heap_alloc _ _ _ hk)).bts) (fun q hq => .inl hq)
end Wl

set_option maxHeartbeats 2000000 in
theorem begin_any (w : World) (q p : Nat) (FD R R2 : Nat → Prop) (v : Value) (t : Wl.L) (g : Nat) (A : Option Addr) (c : Nat) (rs : List (List UInt8)) (h : Wl.LgAt w q p FD R v t) (hR : Wl.RwsR w R2 (.slice A rs.length c) rs) (hq2 : ¬ R2 q) (hf2 : ∀ k, FD k → ¬ R2 k) (hr2 : ∀ k, R k → ¬ R2 k) (hrl : ∀ k, R2 k → k < w.heap.size)
    (hg : g < 4294967296) (hok : Dk.Ok t.d 50000) (hnd : Wl.needs rs ≤ 5000) (hl : ∀ x ∈ rs, x.length ≤ 8192) :
    Calls Try.prog 56 #[.pointer (some ⟨q, 0, none⟩), .int .u32 (g : Int), .slice A rs.length c] w fun e w' => e = .returned (.int .i64 (Wl.begin_ t.d g rs).2) ∧ Hid (Wl.Begun w q p FD R R2 (t.begin g rs) w') := by
  have c0 := h.c0
  have HH := Lib.hid h
  have HR := Lib.hid hR
  have HP := Lib.hid hR.prts
  have HRL := Lib.hid hrl
  have HL := Lib.hid hl
  have HF2 : Hid (∀ k, R2 k → ¬ Wl.FF q FD R k) := fun k hk => by
    rintro (h1 | h1 | h1)
    · exact hq2 (h1 ▸ hk)
    · exact hf2 k h1 hk
    · exact hr2 k h1 hk
  obtain ⟨N, hN⟩ : ∃ N : Nat, t.d.n = (N : Int) := ⟨t.d.n.toNat, by have := hok.n0; omega⟩
  have hN4 : N ≤ 4096 := by have := hok.n1; omega
  have HSZ : Hid (Calls Try.prog 48 #[.pointer (some ⟨p, 0, none⟩)] w fun e w' => e = .returned (.int .i64 (N : Int)) ∧ w = w') := by
    obtain ⟨a, c, v, hA, _⟩ := h.dsk
    have := size_any w p a c v t.d hA
    rw [hN] at this
    exact this
  have hrl2 : rs.length ≤ 5000 := Nat.le_trans (Wl.length_le_needs rs) hnd
  have hbl := Below.refl w.heap.size w
  have HA1 := Lib.hid (Wl.length_allFrom g rs 0)
  have HQ2 := Lib.hid hq2
  have HSN : Hid (∀ j (hj : j < rs.length), Wl.allFrom g 0 (rs.take j) ++ Wl.pieces g j rs[j] = Wl.allFrom g 0 (rs.take (j + 1))) := fun j hj => Wl.all_snoc g rs j hj
  clear h hR hrl hl hf2 hq2 hr2
  generalize hB : Wl.begin_ t.d g rs = B
  generalize hT : t.begin g rs = T
  have HB := Lib.hid hB
  have HT := Lib.hid hT
  have HN := Lib.hid hN
  clear hB hT hN
  go_enter Try.func56, Try.ntmps56
  go_wp2_with (go_at_call 48; refine HSZ.out.mono ?_; rintro e w1 ⟨rfl, rfl⟩)
  go_loopw [8, 20] (fun al i wr => ∃ (j m : Nat) (A' : Option Addr) (c' : Nat), j ≤ rs.length ∧ i = .int .i64 j ∧ al = .slice A' m c' ∧ Hid (m = (Wl.allFrom g 0 (rs.take j)).length) ∧ Hid (Wl.Rws wr w.heap.size (.slice A' m c') (Wl.allFrom g 0 (rs.take j))) ∧ Below w.heap.size w wr) (fun _ i _ => rs.length - (intOf i).toNat)
  case atStart => exact ⟨0, 0, none, 0, by omega, rfl, rfl, rfl, Wl.Rws.nil _ _, hbl⟩
  case round =>
    obtain ⟨j, m, A1, c1, hj, rfl, rfl, HM, HW, hbj⟩ := hrel
    have hs0 := hbj.size
    by_cases hlt : j < rs.length
    · obtain ⟨b, off, A', c', rfl, _, hc, hB, _, hcap⟩ := (HP.out.kept (w' := wr) (fun k hk => hbj.block k (HRL.out k hk))).at_ j hlt
      have hlen := HL.out _ (List.getElem_mem hlt)
      have HPC := Lib.hid (pieces_any wr g j A' rs[j] c' _ hB hcap hg (by omega) hlen)
      have hL := Lib.hid (HSN.out j hlt)
      have hnn : (Wl.allFrom g 0 (rs.take (j + 1))).length ≤ 5000 := by
        rw [Wl.length_allFrom]
        exact Nat.le_trans (Wl.needs_take rs (j + 1)) hnd
      have HNN := Lib.hid hnn
      have hmm : Hid (m + (Wl.pieces g j rs[j]).length = (Wl.allFrom g 0 (rs.take (j + 1))).length) := show _ = _ by
        rw [← hL.out, List.length_append, HM.out]
      clear hB hcap hnn
      generalize hpc : (Wl.pieces g j rs[j]).length = z at *
      have HZ := Lib.hid hpc
      clear hpc
      go_wp2_with (first
        | (go_at_call 51; refine HPC.out.mono ?_; rintro e w1 ⟨A2, c2, rfl, HR2, hb2⟩; rw [HZ.out])
        | (at_builtin; refine Wl.wpList_appendS rfl (.tmp 25) (.tmp 29) rfl w.heap.size (.slice A1 m c1) _ _ _ rfl (HW.out.below hb2) A2 c2 (by rw [HZ.out]; rfl) HR2.out.nilcap (HR2.out.prts.mono (fun k hk => ⟨by omega, hk.2, fun e => by have := (HW.out.own k e).2; omega⟩)) hL.out (m + z) hmm.out (by have := HNN.out; omega) (by have := hb2.size; omega) ?_; intro A3 c3 w3 HR3 hb3))
      go_roundw
      case rel => exact ⟨j + 1, m + z, A3, c3, by omega, by go_num, rfl, hmm, HR3, (hbj.trans (hb2.mono hs0)).trans hb3⟩
      case measure => simp [intOf]; omega
    · obtain rfl : j = rs.length := by omega
      rw [List.take_of_length_le (Nat.le_refl _)] at HM HW
      have HHr := Lib.hid (HH.out.below hbj)
      have hm5 : m ≤ 5000 := by rw [HM.out, Wl.length_allFrom]; exact hnd
      have hNt : t.d.n.toNat = N := by rw [HN.out]; simp
      have HFS := Lib.hid (fun w1 => firstSector_any N g w1 hN4 hg)
      have har : Wl.area N ≤ 4096 := by unfold Wl.area; omega
      have hfs : Wl.first N g ≤ 5000 := by
        unfold Wl.first Wl.area
        have : g % 2 = 0 ∨ g % 2 = 1 := by omega
        rcases this with h | h <;> rw [h] <;> omega
      have hfr1 : Dk.Fr (Wl.FF q FD R) w wr := Dk.Fr.of_below hbj
      obtain ⟨o0, o1, o2, o3, o4⟩ := hok
      obtain ⟨a1, a2, a3, a4⟩ := Wl.lay_facts (Wl.all g rs) t.d (Wl.first N g) o2
      have hla : (Wl.all g rs).length = m := HM.out.symm
      rw [hla] at a4
      have hwl := Wl.len_allFrom g rs 0
      have HX1 : Hid (Wl.lay t.d (Wl.first N g) (Wl.all g rs) = Wl.lay t.d (Wl.first N g) (Wl.all g rs)) := rfl
      have HFDlt : Hid (∀ k, FD k → k < w.heap.size) := fun k hk => HH.out.lt k (.inr (.inl hk))
      have hb0 := HB.out
      have ht0 := HT.out
      unfold Wl.L.begin at ht0
      unfold Wl.begin_ at hb0 ht0
      rw [hNt] at hb0 ht0
      simp only at hb0 ht0
      generalize hX : Wl.lay t.d (Wl.first N g) (Wl.all g rs) = X at *
      have HL1 : Hid (Calls Try.prog 50 #[.pointer (some ⟨q, 0, none⟩), .int .i64 (Wl.first N g : Int), .slice A1 m c1] wr fun e w' => e = .returned (.int .i64 X.2) ∧
          Hid (∃ FD', Wl.LgAt w' q p FD' R v (t.laid X) ∧ Dk.Moved wr (Wl.FF q FD R) w' (Wl.FF q FD' R))) :=
        lay_at wr q p FD R v t (Wl.first N g) m _ A1 (Wl.all g rs) c1 _ X HHr.out HW.out.prts (fun k hk hf => by have := HFDlt.out k hf; omega) hwl rfl HM.out (by omega) (by omega) o2 o3 hX
      clear HX1 hwl hX
      obtain ⟨s1, e1⟩ := X
      simp only at a1 a2 a3 a4 hb0 ht0
      by_cases h1 : e1 = 0
      · subst h1
        simp only [if_true] at hb0 ht0
        have HX2 : Hid (Wl.lay s1 (g % 2) [Wl.head g] = B) := hb0
        have HHD := Lib.hid (fun w1 => head_any w1 g hg)
        have HT2 := Lib.hid ht0
        have HA2 := Lib.hid (fun w1 => area_any N w1 (by omega))
        rw [HX2.out] at HT2
        obtain ⟨s2, e2⟩ := B
        clear hb0 ht0
        have HL2 : Hid (∀ w2 FD2 w3 k, Wl.LgAt w2 q p FD2 R v (t.laid (s1, 0)) → Below w2.heap.size w2 w3 → w2.heap.size ≤ k → Dk.Row w3 k 5 (Wl.head g) →
            Calls Try.prog 50 #[.pointer (some ⟨q, 0, none⟩), .int .i64 ((g : Int) % 2), .slice (some ⟨w3.heap.size, 0, none⟩) 1 1] (w3.alloc (.cells #[.slice (some ⟨k, 0, none⟩) 512 512] 40)) fun e w' => e = .returned (.int .i64 e2) ∧
              Hid (∃ FD', Wl.LgAt w' q p FD' R v ((t.laid (s1, 0)).laid (s2, e2)) ∧ Dk.Moved w2 (Wl.FF q FD2 R) w' (Wl.FF q FD' R))) := fun w2 FD2 w3 k hl2 hb3 hk hrow => by
          have hb4 := hb3.alloc hb3.size (.cells #[.slice (some ⟨k, 0, none⟩) 512 512] 40)
          have hlt : ∀ k, FD2 k → k < w2.heap.size := fun k hk => hl2.lt k (.inr (.inl hk))
          have hs3 := hb3.size
          refine (lay_at _ q p FD2 R v _ (g % 2) 1 _ _ [Wl.head g] 1 _ (s2, e2) (hl2.below hb4) (Wl.prts_lit1 w3 k 512 512 _ (Wl.head g) (Dk.lt_of_some hrow) hrow (Wl.length_head g).symm (Nat.le_refl _) rfl) (fun k' hk' hf => by
            have := hlt k' hf
            rcases hk' with hk' | hk' <;> omega) (fun x hx => by simp at hx; subst hx; exact Wl.length_head g) (by omega) rfl (by simp; omega) (by show s1.wait.length + 1 < _; omega) a2 (by show s1.left ≤ _; omega) HX2.out).mono fun e w' ⟨h1, h2⟩ => ⟨h1, ?_⟩
          obtain ⟨FD', g1, g2⟩ := h2.out
          refine ⟨FD', g1, ?_⟩
          have hm : Dk.Moved w2 (Wl.FF q FD2 R) (w3.alloc (.cells #[.slice (some ⟨k, 0, none⟩) 512 512] 40)) (Wl.FF q FD2 R) := Dk.Moved.still (Dk.Fr.of_below hb4)
          exact hm.trans g2
        have HFD : Hid (∀ w5 FD5, Wl.LgAt w5 q p FD5 R v ((t.laid (s1, 0)).laid (s2, e2)) → Dk.Moved w (Wl.FF q FD R) w5 (Wl.FF q FD5 R) → ∀ k, FD5 k → FD k ∨ w.heap.size ≤ k) := fun w5 FD5 g1 g2 k hk => by
          rcases g2.2 k (.inr (.inl hk)) with h | h
          · rcases h with h | h | h
            · exact absurd (h ▸ hk) g1.qf
            · exact .inl h
            · exact absurd h (g1.fr k hk)
          · exact .inr h
        by_cases h2 : e2 = 0
        · subst h2
          have HT3 : Hid ({ d := s2, g := g, rs := rs, room := (Wl.area N : Int) - (m : Int), closed := false } = T) := show _ = _ by
            rw [← HT2.out, ← hla]; rfl
          clear HT2
          go_wp2_with (first
            | (go_at_call 49; refine (HFS.out _).mono ?_; rintro e w1 ⟨rfl, rfl⟩)
            | (go_at_call 50; refine (HL2.out w2 FD2 w3 k HA.out hb3 hk HR3.out).mono ?_; rintro e w5 ⟨rfl, HG5⟩; obtain ⟨FD5, g1, g2⟩ := HG5.out; have HA5 := Lib.hid g1; have HM5 := Lib.hid (HM2.out.trans g2); clear g1 g2 HG5; have c15 := HA5.out.c1; have c25 := HA5.out.c2; have c35 := HA5.out.c3; have f1 := HA5.out.free 1; have f2 := HA5.out.free 2; have f3 := HA5.out.free 3)
            | (go_at_call 50; refine HL1.out.mono ?_; rintro e w2 ⟨rfl, HG2⟩; obtain ⟨FD2, g1, g2⟩ := HG2.out; have HA := Lib.hid g1; have HM2 := Lib.hid ((Dk.Moved.still hfr1).trans g2); clear g1 g2 HG2)
            | (go_at_call 80; refine (HHD.out _).mono ?_; rintro e w3 ⟨k, rfl, hk, HR3, hb3⟩)
            | (go_at_call 13; refine (HA2.out _).mono ?_; rintro e w6 ⟨rfl, rfl⟩))
          go_ret
          refine ⟨rfl, FD5, R2, .slice A rs.length c, ?_, ?_, HFD.out w5 FD5 HA5.out HM5.out, fun k hk => .inr hk⟩
          · rw [← HT3.out]
            exact HA5.out.done (HR.out.kept (fun k hk => HM5.out.1.block k (HRL.out k hk) (HF2.out k hk))) HQ2.out (fun k hf hr => by
              rcases HFD.out w5 FD5 HA5.out HM5.out k hf with h | h
              · exact HF2.out k hr (.inr (.inl h))
              · have := HRL.out k hr; omega) (fun k hk => Nat.lt_of_lt_of_le (HRL.out k hk) HM5.out.1.size) g _
          · exact HM5.out.1.trans (Wl.Fr.done w5 q FD5 R _ _ _) (fun k hk hf => (HM5.out.2 k hf).resolve_right (by omega))
        · have hz : (e2 != 0) = true := bne_iff_ne.2 h2
          have HT3 : Hid ((t.laid (s1, 0)).laid (s2, e2) = T) := show _ = _ by
            rw [← HT2.out]
            simp [Wl.L.laid, h2]
          clear HT2 h2
          go_wp2_with (first
            | (go_at_call 49; refine (HFS.out _).mono ?_; rintro e w1 ⟨rfl, rfl⟩)
            | (go_at_call 50; refine (HL2.out w2 FD2 w3 k HA.out hb3 hk HR3.out).mono ?_; rintro e w5 ⟨rfl, HG5⟩; obtain ⟨FD5, g1, g2⟩ := HG5.out; have HA5 := Lib.hid g1; have HM5 := Lib.hid (HM2.out.trans g2); clear g1 g2 HG5)
            | (go_at_call 50; refine HL1.out.mono ?_; rintro e w2 ⟨rfl, HG2⟩; obtain ⟨FD2, g1, g2⟩ := HG2.out; have HA := Lib.hid g1; have HM2 := Lib.hid ((Dk.Moved.still hfr1).trans g2); clear g1 g2 HG2)
            | (go_at_call 80; refine (HHD.out _).mono ?_; rintro e w3 ⟨k, rfl, hk, HR3, hb3⟩))
          go_ret
          refine ⟨rfl, FD5, R, v, ?_, HM5.out.1, HFD.out w5 FD5 HA5.out HM5.out, fun k hk => .inl hk⟩
          rw [← HT3.out]
          exact HA5.out
      · have hz : (e1 != 0) = true := bne_iff_ne.2 h1
        simp only [h1, if_false] at hb0 ht0
        have HTT : Hid (t.laid (s1, e1) = T) := show _ = _ by
          rw [← ht0]
          simp [Wl.L.laid, h1]
        have HBB : Hid (B.2 = e1) := show _ = _ by rw [← hb0]
        clear hb0 ht0 h1
        go_wp2_with (first
          | (go_at_call 49; refine (HFS.out _).mono ?_; rintro e w1 ⟨rfl, rfl⟩)
          | (go_at_call 50; refine HL1.out.mono ?_; rintro e w2 ⟨rfl, HG2⟩))
        go_ret
        refine ⟨by rw [HBB.out]; rfl, ?_⟩
        obtain ⟨FD', g1, g2⟩ := HG2.out
        rw [HTT.out] at g1
        refine ⟨FD', R, v, g1, hfr1.trans g2.1 (fun _ _ h => h), fun k hk => ?_, fun k hk => .inl hk⟩
        rcases g2.2 k (.inr (.inl hk)) with h | h
        · rcases h with h | h | h
          · exact absurd (h ▸ hk) g1.qf
          · exact .inl h
          · exact absurd h (g1.fr k hk)
        · right; omega
end Go.Proofs.Ytogkaoiiddhdbaa
