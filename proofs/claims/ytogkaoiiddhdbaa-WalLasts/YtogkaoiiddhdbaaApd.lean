/- Contract of Append. -/
import Derived.Test.YtogkaoiiddhdbaaApp
namespace Go.Proofs.Ytogkaoiiddhdbaa
open Go.RowKit

set_option maxRecDepth 4000 in
set_option maxHeartbeats 2000000 in
theorem append_any (w : World) (q p : Nat) (FD R G : Nat → Prop) (v : Value) (t : Wl.L) (A : Option Addr) (c : Nat) (b : List UInt8) (h : Wl.LgAt w q p FD R v t) (hB : Dk.Bts w G A b) (hnil : A = none → c = 0) (hcap : b.length ≤ c) (hdj : ∀ k, G k → ¬ Wl.FF q FD R k) (hok : Dk.Ok t.d 50000) (hg : t.g < 4294967296)
    (hr0 : 0 ≤ t.room) (hr1 : t.room ≤ (Wl.area t.d.n.toNat : Int)) (hrs : t.rs.length ≤ 5000) (hbl : b.length ≤ 9223372036854775807) :
    Calls Try.prog 19 #[.pointer (some ⟨q, 0, none⟩), .slice A b.length c] w fun e w' => e = .returned (.int .i64 (t.acode b)) ∧ Hid (Wl.Went w q p FD R (t.append b) w') := by
  have c0 := h.c0
  have c1 := h.c1
  have c3 := h.c3
  have c4 := h.c4
  have HH := Lib.hid h
  have HS := Lib.hid (Wl.Went.same h)
  have HND : Hid (∀ w1, Calls Try.prog 11 #[.int .i64 (b.length : Int)] w1 fun e w' => e = .returned (.int .i64 (Wl.need b.length : Int)) ∧ w1 = w') := fun w1 => need_any b.length w1 hbl
  unfold Wl.L.acode Wl.L.append
  by_cases hc : t.closed = true
  · rw [if_pos hc, if_pos hc]
    rw [hc] at c4
    clear hc h
    generalize Wl.need b.length = nd at *
    go_enter Try.func19, Try.ntmps19
    go_wp2_with (go_at_call 11; refine (HND.out _).mono ?_; rintro e w1 ⟨rfl, rfl⟩)
    go_ret
    exact ⟨rfl, HS⟩
  · rw [if_neg hc, if_neg hc]
    have hcf : t.closed = false := by simpa using hc
    rw [hcf] at c4
    by_cases h2 : 8192 < b.length
    · rw [if_pos h2, if_pos h2]
      clear hc h
      generalize Wl.need b.length = nd at *
      go_enter Try.func19, Try.ntmps19
      go_wp2_with (go_at_call 11; refine (HND.out _).mono ?_; rintro e w1 ⟨rfl, rfl⟩)
      go_ret
      exact ⟨rfl, HS⟩
    · rw [if_neg h2, if_neg h2]
      have hnd : Wl.need b.length ≤ 17 := by unfold Wl.need; omega
      by_cases h3 : t.room < (Wl.need b.length : Int)
      · rw [if_pos h3, if_pos h3]
        clear hc h hr1
        generalize Wl.need b.length = nd at *
        generalize t.room = rm at *
        go_enter Try.func19, Try.ntmps19
        go_wp2_with (go_at_call 11; refine (HND.out _).mono ?_; rintro e w1 ⟨rfl, rfl⟩)
        go_ret
        exact ⟨rfl, HS⟩
      · rw [if_neg h3, if_neg h3]
        obtain ⟨N, hN⟩ : ∃ N : Nat, t.d.n = (N : Int) := ⟨t.d.n.toNat, by have := hok.n0; omega⟩
        have hN4 : N ≤ 4096 := by have := hok.n1; omega
        have hNt : t.d.n.toNat = N := by rw [hN]; simp
        rw [hNt] at hr1 ⊢
        obtain ⟨rm, hrm⟩ : ∃ rm : Nat, t.room = (rm : Int) := ⟨t.room.toNat, by omega⟩
        have hrmt : t.room.toNat = rm := by rw [hrm]; simp
        rw [hrmt]
        rw [hrm] at c3 hr1 h3
        have har : Wl.area N ≤ 4096 := by unfold Wl.area; omega
        have hfs : Wl.first N t.g ≤ 5000 := by
          unfold Wl.first Wl.area
          have : t.g % 2 = 0 ∨ t.g % 2 = 1 := by omega
          rcases this with h | h <;> rw [h] <;> omega
        obtain ⟨o0, o1, o2, o3, o4⟩ := id hok
        have hpl := Wl.length_pieces t.g t.rs.length b
        obtain ⟨vA, vC, hv⟩ := h.row.form
        have c2 := h.c2
        rw [hv] at c2
        have HSZ : Hid (Calls Try.prog 48 #[.pointer (some ⟨p, 0, none⟩)] w fun e w' => e = .returned (.int .i64 (N : Int)) ∧ w = w') := by
          obtain ⟨a, c, v, hA, _⟩ := h.dsk
          have := size_any w p a c v t.d hA
          rw [hN] at this
          exact this
        have HFS : Hid (∀ w1, Calls Try.prog 49 #[.int .i64 (N : Int), .int .u32 (t.g : Int)] w1 fun e w' => e = .returned (.int .i64 (Wl.first N t.g : Int)) ∧ w1 = w') := fun w1 => firstSector_any N t.g w1 hN4 hg
        have HAR := Lib.hid (fun w1 => area_any N w1 (by omega))
        have hlt := h.lt
        have HPC : Hid (∀ w1, Below w.heap.size w w1 → Calls Try.prog 51 #[.int .u32 (t.g : Int), .int .i64 (t.rs.length : Int), .slice A b.length c] w1 fun e w' => Wl.NewR w1 (Wl.pieces t.g t.rs.length b) e w') := fun w1 hb1 =>
          pieces_any w1 t.g t.rs.length A b c _ (hB.lt.kept (w' := w1) (fun k hk => hb1.block k hk.2)) hcap hg (by omega) (by omega)
        have HLY : Hid (∀ (w1 w2 : World) A2 c2, Below w.heap.size w w1 → w1.heap.size = w.heap.size → Wl.Rws w2 w1.heap.size (.slice A2 (Wl.pieces t.g t.rs.length b).length c2) (Wl.pieces t.g t.rs.length b) → Below w1.heap.size w1 w2 →
            Calls Try.prog 50 #[.pointer (some ⟨q, 0, none⟩), .int .i64 ((Wl.first N t.g : Int) + (Wl.area N : Int) - (rm : Int)), .slice A2 (Wl.pieces t.g t.rs.length b).length c2] w2 fun e w' => e = .returned (.int .i64 (Wl.lay t.d (Wl.first N t.g + Wl.area N - rm) (Wl.pieces t.g t.rs.length b)).2) ∧
              Hid (∃ FD', Wl.LgAt w' q p FD' R v (t.laid (Wl.lay t.d (Wl.first N t.g + Wl.area N - rm) (Wl.pieces t.g t.rs.length b))) ∧ Dk.Moved w (Wl.FF q FD R) w' (Wl.FF q FD' R))) := fun w1 w2 A2 c2 hb1 hs1 hr hb2 => by
          have hb02 : Below w.heap.size w w2 := hb1.trans (hb2.mono (by omega))
          refine (lay_at w2 q p FD R v t (Wl.first N t.g + Wl.area N - rm) _ _ A2 (Wl.pieces t.g t.rs.length b) c2 _ _ (h.below hb02) hr.prts (fun k hk hf => by have := hlt k (.inr (.inl hf)); omega) (fun x hx => by
            simp only [Wl.pieces, List.mem_map] at hx
            obtain ⟨i, _, rfl⟩ := hx
            exact Wl.length_piece _ _ _ _) (by omega) rfl (by rw [hpl]; omega) (by rw [hpl]; omega) o2 o3 rfl).mono fun e w' ⟨g1, g2⟩ => ⟨g1, ?_⟩
          obtain ⟨FD', k1, k2⟩ := g2.out
          exact ⟨FD', k1, (Dk.Moved.still (Dk.Fr.of_below hb02)).trans k2⟩
        have HBK : Hid (∀ w1, Dk.Fr (Wl.FF q FD R) w w1 → Dk.Bts w1 (fun k => G k ∧ k < w.heap.size) A b) := fun w1 hf => hB.lt.kept (fun k hk => hf.block k hk.2 (hdj k hk.1))
        have hb8 : b.length ≤ 8192 := by omega
        clear h2 hc hB hdj h hpl
        generalize hX : Wl.lay t.d (Wl.first N t.g + Wl.area N - rm) (Wl.pieces t.g t.rs.length b) = X at *
        obtain ⟨s1, e1⟩ := X
        clear hX
        simp only at HLY ⊢
        generalize hPL : (Wl.pieces t.g t.rs.length b).length = pl at *
        generalize Wl.pieces t.g t.rs.length b = PS at *
        have hbw := Below.refl w.heap.size w
        by_cases h5 : e1 = 0
        · subst h5
          simp only [if_true]
          have HTT : Hid (({ (t.laid (s1, 0)) with rs := t.rs ++ [b], room := t.room - (Wl.need b.length : Int) } : Wl.L) = { t with d := s1, rs := t.rs ++ [b], room := t.room - (Wl.need b.length : Int), closed := false }) := show _ = _ by simp [Wl.L.laid]
          generalize hT : ({ t with d := s1, rs := t.rs ++ [b], room := t.room - (Wl.need b.length : Int), closed := false } : Wl.L) = T at *
          clear hT
          rw [hrm] at HTT
          generalize Wl.need b.length = nd at *
          generalize Wl.first N t.g = fi at *
          generalize Wl.area N = ar at *
          generalize ht_g : t.g = tg at *
          generalize ht_l : t.rs.length = tl at *
          go_enter Try.func19, Try.ntmps19
          go_wp2_with (first
            | (go_at_call 11; refine (HND.out _).mono ?_; rintro e w1 ⟨rfl, rfl⟩)
            | (go_at_call 48; refine HSZ.out.mono ?_; rintro e w1 ⟨rfl, rfl⟩))
          go_quiet ((first
            | (go_at_call 49; refine Calls.quiet_of_same ((HFS.out _).mono fun _ _ h => ⟨h.1, h.2.symm⟩))
            | (go_at_call 13; refine Calls.quiet_of_same ((HAR.out _).mono fun _ _ h => ⟨h.1, h.2.symm⟩))))
          go_wp2
          generalize hw : w.drewN _ = w1
          have hs1 : w1.drew.heap.size = w.heap.size := by rw [← hw]; rfl
          have hb1 : Below w.heap.size w w1.drew := by rw [← hw]; exact ⟨rfl, rfl, rfl, Nat.le_refl _, fun _ _ => rfl⟩
          have c11 : w1.cell? ⟨q, 1, none⟩ = some (.int .u32 (tg : Int)) := by rw [← hw]; exact c1
          have c21 : w1.cell? ⟨q, 2, none⟩ = some (.slice vA tl vC) := by rw [← hw]; exact c2
          have hq1 : q < w1.drew.heap.size := by rw [hs1]; exact hlt q (.inl rfl)
          clear hw
          go_region_held3 (fun w' => w'.cell? ⟨q, 1, none⟩ = some (.int .u32 (tg : Int)) ∧ w'.cell? ⟨q, 2, none⟩ = some (.slice vA tl vC)) (first | exact ⟨c11, c21⟩ | exact ⟨c12, c22⟩ | exact ⟨c13, c23⟩) (first
            | (go_at_call 51; refine (HPC.out _ hb1).mono ?_; rintro e w2 ⟨A2, c2', rfl, HR2, hb2⟩; rw [hPL] at HR2 ⊢; have c12 : w2.cell? ⟨q, 1, none⟩ = some (.int .u32 (tg : Int)) := (hb2.cell (p := ⟨q, 1, none⟩) hq1).trans c11; have c22 : w2.cell? ⟨q, 2, none⟩ = some (.slice vA tl vC) := (hb2.cell (p := ⟨q, 2, none⟩) hq1).trans c21)
            | (go_at_call 50; refine (HLY.out w1.drew w2 A2 c2' hb1 hs1 HR2.out hb2).mono ?_; rintro e w3 ⟨rfl, HG3⟩; obtain ⟨FD', k1, k2⟩ := HG3.out; have K1 := Lib.hid k1; have K2 := Lib.hid k2; have c13 : w3.cell? ⟨q, 1, none⟩ = some (.int .u32 (tg : Int)) := by { rw [← ht_g]; exact k1.c1 }; have c23 : w3.cell? ⟨q, 2, none⟩ = some (.slice vA tl vC) := by { rw [← hv]; exact k1.c2 }; clear k1 k2 HG3))
          go_wp2
          have k1 := K1.out
          have HQ := Lib.hid (k1.lt q (.inl rfl))
          have HRb : Hid (∀ k, R k → k < w3.heap.size) := fun k hk => k1.rl k hk
          have HB3 : Hid (Dk.Bts w3.drew (fun k => G k ∧ k < w.heap.size) A b) := HBK.out w3.drew ⟨K2.out.1.os, K2.out.1.tape, K2.out.1.output, K2.out.1.size, K2.out.1.block⟩
          have HV : Hid (∀ w4, Below w3.heap.size w3.drew w4 → Wl.RwsR w4 R (.slice vA tl vC) t.rs) := fun w4 hb4 => by
            rw [← hv]
            exact k1.row.kept (fun k hk => hb4.block k (k1.rl k hk))
          have HC : Hid (∀ w4 w5 A4 n4 c4, Below w3.heap.size w3.drew w4 → Dk.Fr R (w4.alloc (.cells #[.slice A4 n4 c4] 40)) w5 → ∀ j, w5.cell? ⟨q, j, none⟩ = w3.cell? ⟨q, j, none⟩ ∧ w5.frozen? ⟨q, j, none⟩ = false) := fun w4 w5 A4 n4 c4 hb4 hf5 j => by
            have hb := hb4.alloc hb4.size (.cells #[.slice A4 n4 c4] 40)
            have hqq := k1.lt q (.inl rfl)
            have e : w5.heap[q]? = w3.heap[q]? := (hf5.block q (Nat.lt_of_lt_of_le hqq hb.size) k1.qr).trans (hb.block q hqq)
            exact ⟨World.cell?_of_block (a := ⟨q, j, none⟩) e, (World.frozen?_of_block (a := ⟨q, j, none⟩) e).trans (k1.free j)⟩
          have HFIN : Hid (∀ w4 w5 A4 c4 v5, Below w3.heap.size w3.drew w4 → Dk.Fr R (w4.alloc (.cells #[.slice A4 b.length c4] 40)) w5 → Wl.RwsR w5 (fun k => R k ∨ w3.heap.size ≤ k ∧ k < w5.heap.size) v5 (t.rs ++ [b]) → Wl.Went w q p FD R T ((w5.setCell ⟨q, 2, none⟩ v5).setCell ⟨q, 3, none⟩ (.int .i64 ((rm : Int) - (nd : Int))))) := fun w4 w5 A4 c4 v5 hb4 hf5 hr5 => by
            have hb := hb4.alloc hb4.size (.cells #[.slice A4 b.length c4] 40)
            have hb3 : Below w3.heap.size w3 (w4.alloc (.cells #[.slice A4 b.length c4] 40)) := ⟨hb.os, hb.tape, hb.output, hb.size, hb.block⟩
            have hL4 := k1.below hb3
            have hqq := k1.lt q (.inl rfl)
            have hlt3 := k1.lt
            have hL5 := hL4.setRow hf5 hr5 (fun hq' => by
              rcases hq' with h | h
              · exact k1.qr h
              · omega) (fun k hf hr => by
              rcases hr with h | h
              · exact k1.fr k hf h
              · have := hlt3 k (.inr (.inl hf)); omega) (fun k hk => by
              rcases hk with h | h
              · exact Nat.lt_of_lt_of_le (hL4.rl k h) hf5.size
              · exact h.2)
            have hL6 := hL5.set 3 (.int .i64 ((rm : Int) - (nd : Int))) { (t.laid (s1, 0)) with rs := t.rs ++ [b], room := (rm : Int) - (nd : Int) } rfl rfl rfl
            rw [HTT.out] at hL6
            have k2 := K2.out
            refine ⟨FD', _, v5, hL6, ?_, fun k hk => ?_, fun k hk => ?_⟩
            · have f1 : Dk.Fr (Wl.FF q FD' R) w3 ((w5.setCell ⟨q, 2, none⟩ v5).setCell ⟨q, 3, none⟩ (.int .i64 ((rm : Int) - (nd : Int)))) :=
                (((Dk.Fr.of_below hb3).trans (hf5.mono (fun k hk => .inr (.inr hk))) (fun _ _ h => h)).trans (Dk.Fr.setCell _ (.inl rfl) _) (fun _ _ h => h)).trans (Dk.Fr.setCell _ (.inl rfl) _) (fun _ _ h => h)
              exact k2.1.trans f1 (fun k hk hf => (k2.2 k hf).resolve_right (by omega))
            · rcases k2.2 k (.inr (.inl hk)) with h | h
              · rcases h with h | h | h
                · exact absurd (h ▸ hk) k1.qf
                · exact .inl h
                · exact absurd h (k1.fr k hk)
              · exact .inr h
            · rcases hk with h | h
              · exact .inl h
              · right
                have := k2.1.size
                omega
          have c33 : w3.cell? ⟨q, 3, none⟩ = some (.int .i64 (rm : Int)) := by
            have := k1.c3
            rw [show (t.laid (s1, 0)).room = (rm : Int) from hrm] at this
            exact this
          have htl : t.rs.length ≤ 100000 := by omega
          have HLN : Hid ((t.rs ++ [b]).length = tl + 1) := show _ = _ by rw [List.length_append, ht_l]; rfl
          clear k1 K1 K2 HLY HPC HFS HAR HND HSZ HH HS
          go_region_law (first
            | (refine Wl.wp_appendR (.tmp 68) (.tmp 71) rfl R (.slice vA tl vC) t.rs (HV.out w4 hb4) rfl w3.heap.size HRb.out hb4.size A4 b b.length c4 w4.heap.size (Wl.Bts.mono HO4.out.bts (fun k hk => hk.1)) rfl HO4.out.nilcap HO4.out.lecap rfl rfl htl ?_; intro v5 w5 hr5 hf5; obtain ⟨A5, c5, e5⟩ := hr5.form; subst e5; have HR5 := Lib.hid hr5; have cq2 := (HC.out w4 w5 A4 b.length c4 hb4 hf5 2).1.trans c23; have fq2 := (HC.out w4 w5 A4 b.length c4 hb4 hf5 2).2; have cq3 := (HC.out w4 w5 A4 b.length c4 hb4 hf5 3).1.trans c33; have fq3 := (HC.out w4 w5 A4 b.length c4 hb4 hf5 3).2; clear hr5)
            | (go_simp; go_at_call 52; refine (clone_bytes _ A b c _ HB3.out hnil (by omega)).mono ?_; rintro e w4 ⟨A4, c4, rfl, HO4, hb4⟩; have c24 : w4.cell? ⟨q, 2, none⟩ = some (.slice vA tl vC) := (hb4.cell (p := ⟨q, 2, none⟩) HQ.out).trans c23; have c24' : (w4.alloc (.cells #[.slice A4 b.length c4] 40)).cell? ⟨q, 2, none⟩ = some (.slice vA tl vC) := (World.cell?_alloc_lt _ _ _ (Nat.lt_of_lt_of_le HQ.out hb4.size)).trans c24))
          all_goals go_wp2
          all_goals go_ret
          all_goals refine ⟨rfl, ?_⟩
          all_goals have e := HFIN.out w4 w5 A4 c4 _ hb4 hf5 HR5.out
          all_goals rw [HLN.out] at e
          all_goals exact e
        · simp only [h5, if_false]
          have hz : (e1 != 0) = true := bne_iff_ne.2 h5
          have HTT : Hid (t.laid (s1, e1) = { t with d := s1, closed := true }) := show _ = _ by simp [Wl.L.laid, h5]
          generalize hT : ({ t with d := s1, closed := true } : Wl.L) = T at *
          clear h5 hT
          generalize Wl.need b.length = nd at *
          generalize Wl.first N t.g = fi at *
          generalize Wl.area N = ar at *
          generalize ht_g : t.g = tg at *
          generalize ht_l : t.rs.length = tl at *
          go_enter Try.func19, Try.ntmps19
          go_wp2_with (first
            | (go_at_call 11; refine (HND.out _).mono ?_; rintro e w1 ⟨rfl, rfl⟩)
            | (go_at_call 48; refine HSZ.out.mono ?_; rintro e w1 ⟨rfl, rfl⟩))
          go_quiet ((first
            | (go_at_call 49; refine Calls.quiet_of_same ((HFS.out _).mono fun _ _ h => ⟨h.1, h.2.symm⟩))
            | (go_at_call 13; refine Calls.quiet_of_same ((HAR.out _).mono fun _ _ h => ⟨h.1, h.2.symm⟩))))
          go_wp2
          generalize hw : w.drewN _ = w1
          have hs1 : w1.drew.heap.size = w.heap.size := by rw [← hw]; rfl
          have hb1 : Below w.heap.size w w1.drew := by rw [← hw]; exact ⟨rfl, rfl, rfl, Nat.le_refl _, fun _ _ => rfl⟩
          have c11 : w1.cell? ⟨q, 1, none⟩ = some (.int .u32 (tg : Int)) := by rw [← hw]; exact c1
          have c21 : w1.cell? ⟨q, 2, none⟩ = some (.slice vA tl vC) := by rw [← hw]; exact c2
          have hq1 : q < w1.drew.heap.size := by rw [hs1]; exact hlt q (.inl rfl)
          clear hw
          go_region_held3 (fun w' => w'.cell? ⟨q, 1, none⟩ = some (.int .u32 (tg : Int)) ∧ w'.cell? ⟨q, 2, none⟩ = some (.slice vA tl vC)) (first | exact ⟨c11, c21⟩ | exact ⟨c12, c22⟩ | exact ⟨c13, c23⟩) (first
            | (go_at_call 51; refine (HPC.out _ hb1).mono ?_; rintro e w2 ⟨A2, c2', rfl, HR2, hb2⟩; rw [hPL] at HR2 ⊢; have c12 : w2.cell? ⟨q, 1, none⟩ = some (.int .u32 (tg : Int)) := (hb2.cell (p := ⟨q, 1, none⟩) hq1).trans c11; have c22 : w2.cell? ⟨q, 2, none⟩ = some (.slice vA tl vC) := (hb2.cell (p := ⟨q, 2, none⟩) hq1).trans c21)
            | (go_at_call 50; refine (HLY.out w1.drew w2 A2 c2' hb1 hs1 HR2.out hb2).mono ?_; rintro e w3 ⟨rfl, HG3⟩; obtain ⟨FD', k1, k2⟩ := HG3.out; have K1 := Lib.hid k1; have K2 := Lib.hid k2; have c13 : w3.cell? ⟨q, 1, none⟩ = some (.int .u32 (tg : Int)) := by { rw [← ht_g]; exact k1.c1 }; have c23 : w3.cell? ⟨q, 2, none⟩ = some (.slice vA tl vC) := by { rw [← hv]; exact k1.c2 }; clear k1 k2 HG3))
          go_wp2
          go_ret
          refine ⟨rfl, ?_⟩
          have k1 := K1.out
          have k2 := K2.out
          rw [HTT.out] at k1
          refine ⟨FD', R, v, k1, k2.1, fun k hk => ?_, fun k hk => .inl hk⟩
          rcases k2.2 k (.inr (.inl hk)) with h | h
          · rcases h with h | h | h
            · exact absurd (h ▸ hk) k1.qf
            · exact .inl h
            · exact absurd h (k1.fr k hk)
          · exact .inr h
end Go.Proofs.Ytogkaoiiddhdbaa
