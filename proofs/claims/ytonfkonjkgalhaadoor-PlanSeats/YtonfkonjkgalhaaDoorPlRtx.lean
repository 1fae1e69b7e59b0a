/- Contracts of the document's Digits, Text. -/
import Derived.Test.YtonfkonjkgalhaaDoorPlRead
import Derived.Test.YtonfkonjkgalhaaDoorCdRup
namespace Go.Proofs.YtonfkonjkgalhaaDoor
open Go.RowKit Go.WideMaps
set_option linter.unusedVariables false

namespace Pl
theorem dig1 {n : Nat} (h : n < 10) (S : ByteArray) (hS : S = ⟨#[]⟩) : (⟨#[(48 + n).toUInt8]⟩ : ByteArray) ++ S = dig n := by
  subst hS
  unfold dig
  rw [if_pos h]
  apply ByteArray.ext
  simp
theorem dig2 {n : Nat} (h : ¬ n < 10) (S : ByteArray) (hS : S = ⟨#[(48 + n % 10).toUInt8]⟩) : (⟨#[(48 + n / 10).toUInt8]⟩ : ByteArray) ++ S = dig n := by
  subst hS
  unfold dig
  rw [if_neg h]
  apply ByteArray.ext
  simp
theorem u8_of {n : Nat} (h : n < 208) : (48 + (n : Int)) = (((48 + n).toUInt8).toNat : Int) := by
  simp [Nat.toUInt8_eq]; omega
end Pl
set_option maxHeartbeats 1000000 in
set_option maxRecDepth 20000 in
theorem digits_any (n : Nat) (w : World) (h0 : 1 ≤ n) (h1 : n ≤ 99) : Calls Tryd.prog 38 #[.int .i64 n] w fun e w' => e = .returned (.string (Pl.dig n)) ∧ Below w.heap.size w w' := by
  have HCV : Hid (∀ (m : Nat) (w2 : World), m < 208 → (convert 66 9 (.slice (some ⟨w2.heap.size, 0, none⟩) 1 1)).run Tryd.prog (w2.alloc (.cells #[.int .u8 (48 + (m : Int))] 5)) = .ok (.string ⟨#[(48 + m).toUInt8]⟩) (w2.alloc (.cells #[.int .u8 (48 + (m : Int))] 5))) := fun m w2 hm =>
    Cd.conv (Cd.bts_one w2 _ _ (Pl.u8_of hm)) 1
  have HZ1 : Hid (∀ c : UInt8, (⟨#[c]⟩ : ByteArray).size = 1) := fun _ => rfl
  go_enter Tryd.func38, Tryd.ntmps38
  go_wp2
  go_loopw [0, 3] (fun v s wr => ∃ (m : Nat) (S : ByteArray), 1 ≤ m ∧ m ≤ 99 ∧ S.size ≤ 1 ∧ v = .int .i64 m ∧ s = .string S ∧ Hid ((m = n ∧ S = ⟨#[]⟩) ∨ (¬ n < 10 ∧ m = n / 10 ∧ S = ⟨#[(48 + n % 10).toUInt8]⟩)) ∧ Below w.heap.size w wr) (fun v _ _ => (intOf v).toNat)
  case atStart => exact ⟨n, ⟨#[]⟩, h0, h1, by decide, rfl, rfl, .inl ⟨rfl, rfl⟩, Below.refl _ _⟩
  case round =>
    obtain ⟨m, S, m0, m1, hS, rfl, rfl, HM, hbr⟩ := hrel
    by_cases h9 : 9 < m
    · have HN : Hid (¬ n < 10 ∧ m / 10 = n / 10 ∧ (⟨#[(48 + m % 10).toUInt8]⟩ : ByteArray) ++ S = ⟨#[(48 + n % 10).toUInt8]⟩) := by
        rcases HM.out with ⟨h2, h3⟩ | ⟨h2, h3, h4⟩
        · subst h2 h3
          exact ⟨by omega, rfl, by apply ByteArray.ext; simp⟩
        · omega
      have hmm : (m : Int) % 10 = ((m % 10 : Nat) : Int) := by omega
      have hmd : (m : Int) / 10 = ((m / 10 : Nat) : Int) := by omega
      obtain ⟨r, hr⟩ : ∃ r, r = m % 10 := ⟨_, rfl⟩
      obtain ⟨d, hd⟩ : ∃ d, d = m / 10 := ⟨_, rfl⟩
      rw [← hr] at HN hmm
      rw [← hd] at HN hmd
      have hr9 : r < 10 := by omega
      have hd9 : 1 ≤ d ∧ d < 10 := by omega
      obtain ⟨hd1, hd2⟩ := hd9
      have HD := Lib.hid hd
      clear hr hd HM
      have hcv := HCV.out r wr (by omega)
      have hzc := HZ1.out (48 + r).toUInt8
      generalize (⟨#[(48 + r).toUInt8]⟩ : ByteArray) = cs at *
      have HZ : Hid ((cs ++ S).size ≤ 1) := show _ ≤ 1 by rw [HN.out.2.2]; exact Nat.le_of_eq rfl
      have hb2 : Below w.heap.size w (wr.alloc (.cells #[.int .u8 (48 + (r : Int))] 5)) := hbr.alloc hbr.size _
      go_wp2
      exact ⟨⟨d, cs ++ S, hd1, by omega, HZ.out, rfl, rfl, .inr ⟨HN.out.1, HN.out.2.1, HN.out.2.2⟩, hb2⟩, by simp [intOf]; have := HD.out; omega⟩
    · have HN : Hid ((⟨#[(48 + m).toUInt8]⟩ : ByteArray) ++ S = Pl.dig n) := show _ = _ by
        rcases HM.out with ⟨h2, h3⟩ | ⟨h2, h3, h4⟩
        · subst h2
          exact Pl.dig1 (by omega) S h3
        · subst h3
          exact Pl.dig2 h2 S h4
      have hcv := HCV.out m wr (by omega)
      have hzc := HZ1.out (48 + m).toUInt8
      generalize (⟨#[(48 + m).toUInt8]⟩ : ByteArray) = cs at *
      clear HM
      go_wp2
      go_ret
      exact ⟨Pl.ret_str HN.out, hbr.alloc hbr.size _⟩
set_option maxHeartbeats 1000000 in
set_option maxRecDepth 20000 in
theorem rtext_any (s : Pl.S) (w : World) (h0 : 0 ≤ s.2) (h1 : s.2 ≤ 255) : Calls Tryd.prog 13 #[Pl.sv s] w fun e w' => e = .returned (.string (Pl.txt s)) ∧ Below w.heap.size w w' := by
  have HE : Hid (Pl.txt s = if Pl.rowT s.1 && Cd.isL s.2 then Pl.dig s.1.toNat ++ ⟨#[s.2.toNat.toUInt8]⟩ else ⟨#[]⟩) := show _ = _ by rfl
  have HR : Hid (Pl.rowT s.1 = (decide (1 ≤ s.1) && decide (s.1 ≤ 99))) := show _ = _ by rfl
  have HIL := Lib.hid (fun w => rletter_any s.2 w)
  obtain ⟨s1, s2⟩ := s
  unfold Pl.sv
  simp only at HE HR HIL h0 h1 ⊢
  have hb0 : Below w.heap.size w (w.alloc (.cells #[.int .i64 s1, .int .u8 s2] 23)) := (Below.refl w.heap.size w).alloc (Nat.le_refl _) _
  have HB := Lib.hid hb0
  generalize Pl.txt (s1, s2) = res at *
  generalize Pl.rowT s1 = q1 at *
  have hL : Cd.isL s2 = true → 65 ≤ s2 ∧ s2 ≤ 90 := fun h => by simpa [Cd.isL] using h
  generalize Cd.isL s2 = q2 at *
  by_cases r0 : 1 ≤ s1
  · by_cases r1 : s1 ≤ 99
    · have hq : q1 = true := by rw [HR.out, decide_eq_true r0, decide_eq_true r1]; rfl
      subst hq
      cases q2 with
      | true =>
        obtain ⟨l0, l1⟩ := hL rfl
        have HN : Hid (res = Pl.dig s1.toNat ++ ⟨#[s2.toNat.toUInt8]⟩) := show _ = _ by rw [HE.out]; rfl
        obtain ⟨n, rfl⟩ : ∃ n : Nat, s1 = (n : Int) := ⟨s1.toNat, by omega⟩
        rw [Int.toNat_natCast] at HN
        have HI := Lib.hid (fun w => digits_any n w (by omega) (by omega))
        have K := Rw.Blk.made w 23 [.int .i64 n, .int .u8 s2]
        obtain ⟨w0, ew0⟩ : ∃ w0, w0 = w.alloc (.cells #[.int .i64 n, .int .u8 s2] 23) := ⟨_, rfl⟩
        have K0 : Rw.Blk w0 w.heap.size 23 [.int .i64 n, .int .u8 s2] := by rw [ew0]; exact K
        have HS : Hid (∀ w', Below w0.heap.size w0 w' → w'.cell? ⟨w.heap.size, 0, none⟩ = some (.int .i64 n) ∧ w'.cell? ⟨w.heap.size, 1, none⟩ = some (.int .u8 s2)) := fun w' hb => ⟨((K0.below' hb).cell 0).trans rfl, ((K0.below' hb).cell 1).trans rfl⟩
        have hz := Pl.dig_size n
        have hbig : ¬ 9223372036854775807 < (Pl.dig n).size + 1 := by omega
        have hcv : ∀ (W : World) (g : Nat), W.cell? ⟨g, 0, none⟩ = some (.int .u8 s2) → (convert 66 9 (.slice (some ⟨g, 0, none⟩) 1 1)).run Tryd.prog W = .ok (.string ⟨#[s2.toNat.toUInt8]⟩) W := fun W g hc => Cd.conv (B := g + 1) (l := [s2.toNat.toUInt8]) (fun _ => ⟨g, 0, rfl, Nat.lt_succ_self _, fun j hj => by
          obtain rfl : j = 0 := by simpa using hj
          rw [hc]
          simp [Nat.toUInt8_eq]
          omega⟩) 1
        have HCV := Lib.hid hcv
        have hz1 : (⟨#[s2.toNat.toUInt8]⟩ : ByteArray).size = 1 := rfl
        generalize (⟨#[s2.toNat.toUInt8]⟩ : ByteArray) = ls at *
        have HB0 : Hid (Below w.heap.size w w0) := by rw [ew0]; exact hb0
        have HX : Hid (∀ W : World, Below w0.heap.size w0 W → ((W.alloc (.cells #[.int .u8 s2] 5)).cell? ⟨W.heap.size, 0, none⟩ = some (.int .u8 s2))) := fun W _ => cell_of_row _ _ 0 _ _ _ (heap_alloc_new W _)
        have hzz : w.heap.size < w0.heap.size := by rw [ew0]; simp
        clear hL HE HR hcv K K0
        obtain ⟨d0, d1⟩ := HS.out w0 (Below.refl _ _)
        rw [ew0] at d0 d1
        go_enter Tryd.func13, Tryd.ntmps13
        go_wp2_with (first | (go_at_call 37; refine (HIL.out _).mono ?_; rintro e w' ⟨rfl, rfl⟩))
        rw [← ew0]
        clear d0 d1 ew0 HB hb0
        refine wp_region_noPanic ?_
        refine wp_region_held_drew (S := fun w' => w'.cell? ⟨w.heap.size, 0, none⟩ = some (.int .i64 n) ∧ w'.cell? ⟨w.heap.size, 1, none⟩ = some (.int .u8 s2)) (by kernel_rfl) (HS.out _ (Below.refl _ _).drew) (fun hHeld => ?_)
        refine wpAnyH_take (i := 0) (oi := ⟨(some 17), _, _, _, _, _⟩) (v := ?_) rfl (by kernel_rfl) (by kernel_rfl) (by kernel_rfl) (fun _ _ _ h => h) (Or.inl ⟨by rfl, ?_⟩) (by assumption) ?_
        rotate_left
        · (intro w hSw; (try dsimp only at hSw); go_simp <;> with_reducible rfl)
        try simp only [Act.put]
        try simp only [List.setIfInBounds_toArray]
        try simp only [List.set_cons_succ]
        try simp only [List.set_cons_zero]
        refine wpAnyH_take (i := 1) (oi := ⟨(some 18), _, _, _, _, _⟩) (v := ?_) rfl (by kernel_rfl) (by kernel_rfl) (by kernel_rfl) (fun _ _ _ h => h) (Or.inl ⟨by rfl, ?_⟩) (by assumption) ?_
        rotate_left
        · (intro w hSw; (try dsimp only at hSw); go_simp <;> with_reducible rfl)
        try simp only [Act.put]
        try simp only [List.setIfInBounds_toArray]
        try simp only [List.set_cons_succ]
        try simp only [List.set_cons_zero]
        refine wpAnyH_take (i := 3) (oi := ⟨(some 20), _, _, _, _, _⟩) (v := ?_) rfl (by kernel_rfl) (by kernel_rfl) (by kernel_rfl) (fun _ _ _ h => h) (Or.inl ⟨by rfl, ?_⟩) (by assumption) ?_
        rotate_left
        · (intro w hSw; (try dsimp only at hSw); go_simp <;> with_reducible rfl)
        try simp only [Act.put]
        try simp only [List.setIfInBounds_toArray]
        try simp only [List.set_cons_succ]
        try simp only [List.set_cons_zero]
        refine wpAnyH_take (i := 4) (oi := ⟨(some 21), _, _, _, _, _⟩) (v := ?_) rfl (by kernel_rfl) (by kernel_rfl) (by kernel_rfl) (fun _ _ _ h => h) (Or.inl ⟨by rfl, ?_⟩) (by assumption) ?_
        rotate_left
        · (intro w hSw; (try dsimp only at hSw); go_simp <;> with_reducible rfl)
        try simp only [Act.put]
        try simp only [List.setIfInBounds_toArray]
        try simp only [List.set_cons_succ]
        try simp only [List.set_cons_zero]
        refine wpAnyH_ready (rs := [2, 5]) (by kernel_rfl) (by simp) ?_
        refine AllReadyH.cons (o := ⟨(some 19), _, _, _, _, _⟩) rfl (fun K hK => ?_) (AllReadyH.cons (o := ⟨(some 22), _, _, _, _, _⟩) rfl (fun K hK => ?_) (AllReadyH.nil))
        · go_simp
          go_at_call 38
          refine (HI.out _).mono ?_
          rintro e w5 ⟨rfl, hb5⟩
          go_wp2_with fail
          refine hK.out _ _ ?_ (fun hHeld2 => ?_)
          · exact HS.out _ ((Below.refl _ _).drew.trans hb5)
          clear hK K
          try simp only [Act.put]
          try simp only [List.setIfInBounds_toArray]
          try simp only [List.set_cons_succ]
          try simp only [List.set_cons_zero]
          refine wpAnyH_ready (rs := [5]) (by kernel_rfl) (by simp) ?_
          refine AllReadyH.cons (o := ⟨(some 22), _, _, _, _, _⟩) rfl (fun K hK => ?_) (AllReadyH.nil)
          go_simp
          refine hK.out _ _ ?_ (fun hHeld2 => ?_)
          · exact HS.out _ (((Below.refl _ _).drew.trans hb5).alloc hb5.size _)
          clear hK K
          try simp only [Act.put]
          try simp only [List.setIfInBounds_toArray]
          try simp only [List.set_cons_succ]
          try simp only [List.set_cons_zero]
          refine wpAnyH_ready (rs := [6]) (by kernel_rfl) (by simp) ?_
          refine AllReadyH.cons (o := ⟨(some 23), _, _, _, _, _⟩) rfl (fun K hK => ?_) (AllReadyH.nil)
          have hcv := HCV.out (w5.alloc (.cells #[.int .u8 s2] 5)) w5.heap.size (HX.out w5 ((Below.refl _ _).drew.trans hb5))
          go_simp
          refine hK.out _ _ ?_ (fun hHeld2 => ?_)
          · exact HS.out _ (((Below.refl _ _).drew.trans hb5).alloc hb5.size _)
          clear hK K
          try simp only [Act.put]
          try simp only [List.setIfInBounds_toArray]
          try simp only [List.set_cons_succ]
          try simp only [List.set_cons_zero]
          refine wpAnyH_take (i := 7) (oi := ⟨(some 24), _, _, _, _, _⟩) (v := .string (Pl.dig n ++ ls)) rfl (by kernel_rfl) (by kernel_rfl) (by kernel_rfl) (fun _ _ _ h => h) (Or.inl ⟨by rfl, ?_⟩) (by assumption) ?_
          · (intro w hSw; (try dsimp only at hSw); go_simp; try (first | rfl | (rw [if_neg hbig])))
          try simp only [Act.put]
          try simp only [List.setIfInBounds_toArray]
          try simp only [List.set_cons_succ]
          try simp only [List.set_cons_zero]
          refine wpAnyH_take (i := 8) (oi := ⟨(some 2), _, _, _, _, _⟩) (v := ?_) rfl (by kernel_rfl) (by kernel_rfl) (by kernel_rfl) (fun _ _ _ h => h) (Or.inl ⟨by rfl, ?_⟩) (by assumption) ?_
          rotate_left
          · (intro w hSw; (try dsimp only at hSw); go_simp <;> with_reducible rfl)
          try simp only [Act.put]
          try simp only [List.setIfInBounds_toArray]
          try simp only [List.set_cons_succ]
          try simp only [List.set_cons_zero]
          refine wpAnyH_done (by kernel_rfl) ?_ _
          refine NoPanic.normal ?_
          go_wp2
          go_ret
          exact ⟨Pl.ret_str HN.out.symm, HB0.out.trans (Below.mono (((Below.refl _ _).drew.trans hb5).alloc hb5.size _) (Nat.le_of_lt hzz))⟩
        · go_simp
          refine hK.out _ _ ?_ (fun hHeld2 => ?_)
          · exact HS.out _ (((Below.refl _ _).alloc (Nat.le_refl _) _).drew)
          clear hK K
          try simp only [Act.put]
          try simp only [List.setIfInBounds_toArray]
          try simp only [List.set_cons_succ]
          try simp only [List.set_cons_zero]
          refine wpAnyH_ready (rs := [2, 6]) (by kernel_rfl) (by simp) ?_
          refine AllReadyH.cons (o := ⟨(some 19), _, _, _, _, _⟩) rfl (fun K hK => ?_) (AllReadyH.cons (o := ⟨(some 23), _, _, _, _, _⟩) rfl (fun K hK => ?_) (AllReadyH.nil))
          · go_simp
            go_at_call 38
            refine (HI.out _).mono ?_
            rintro e w5 ⟨rfl, hb5⟩
            go_wp2_with fail
            refine hK.out _ _ ?_ (fun hHeld2 => ?_)
            · exact HS.out _ ((((Below.refl _ _).alloc (Nat.le_refl _) _).drew).trans (hb5.mono (Nat.le_of_lt (by simp))))
            clear hK K
            try simp only [Act.put]
            try simp only [List.setIfInBounds_toArray]
            try simp only [List.set_cons_succ]
            try simp only [List.set_cons_zero]
            refine wpAnyH_ready (rs := [6]) (by kernel_rfl) (by simp) ?_
            refine AllReadyH.cons (o := ⟨(some 23), _, _, _, _, _⟩) rfl (fun K hK => ?_) (AllReadyH.nil)
            have hcv := HCV.out w5 w0.heap.size ((hb5.cell (p := ⟨w0.heap.size, 0, none⟩) (by simp)).trans (HX.out w0 (Below.refl _ _)))
            go_simp
            refine hK.out _ _ ?_ (fun hHeld2 => ?_)
            · exact HS.out _ ((((Below.refl _ _).alloc (Nat.le_refl _) _).drew).trans (hb5.mono (Nat.le_of_lt (by simp))))
            clear hK K
            try simp only [Act.put]
            try simp only [List.setIfInBounds_toArray]
            try simp only [List.set_cons_succ]
            try simp only [List.set_cons_zero]
            refine wpAnyH_take (i := 7) (oi := ⟨(some 24), _, _, _, _, _⟩) (v := .string (Pl.dig n ++ ls)) rfl (by kernel_rfl) (by kernel_rfl) (by kernel_rfl) (fun _ _ _ h => h) (Or.inl ⟨by rfl, ?_⟩) (by assumption) ?_
            · (intro w hSw; (try dsimp only at hSw); go_simp; try (first | rfl | (rw [if_neg hbig])))
            try simp only [Act.put]
            try simp only [List.setIfInBounds_toArray]
            try simp only [List.set_cons_succ]
            try simp only [List.set_cons_zero]
            refine wpAnyH_take (i := 8) (oi := ⟨(some 2), _, _, _, _, _⟩) (v := ?_) rfl (by kernel_rfl) (by kernel_rfl) (by kernel_rfl) (fun _ _ _ h => h) (Or.inl ⟨by rfl, ?_⟩) (by assumption) ?_
            rotate_left
            · (intro w hSw; (try dsimp only at hSw); go_simp <;> with_reducible rfl)
            try simp only [Act.put]
            try simp only [List.setIfInBounds_toArray]
            try simp only [List.set_cons_succ]
            try simp only [List.set_cons_zero]
            refine wpAnyH_done (by kernel_rfl) ?_ _
            refine NoPanic.normal ?_
            go_wp2
            go_ret
            exact ⟨Pl.ret_str HN.out.symm, HB0.out.trans (Below.mono ((((Below.refl _ _).alloc (Nat.le_refl _) _).drew).trans (hb5.mono (Nat.le_of_lt (by simp)))) (Nat.le_of_lt hzz))⟩
          · have hcv := HCV.out (w0.alloc (.cells #[.int .u8 s2] 5)).drew w0.heap.size (HX.out w0 (Below.refl _ _))
            go_simp
            refine hK.out _ _ ?_ (fun hHeld2 => ?_)
            · exact HS.out _ (((Below.refl _ _).alloc (Nat.le_refl _) _).drew)
            clear hK K
            try simp only [Act.put]
            try simp only [List.setIfInBounds_toArray]
            try simp only [List.set_cons_succ]
            try simp only [List.set_cons_zero]
            refine wpAnyH_ready (rs := [2]) (by kernel_rfl) (by simp) ?_
            refine AllReadyH.cons (o := ⟨(some 19), _, _, _, _, _⟩) rfl (fun K hK => ?_) (AllReadyH.nil)
            go_simp
            go_at_call 38
            refine (HI.out _).mono ?_
            rintro e w5 ⟨rfl, hb5⟩
            go_wp2_with fail
            refine hK.out _ _ ?_ (fun hHeld2 => ?_)
            · exact HS.out _ ((((Below.refl _ _).alloc (Nat.le_refl _) _).drew).trans (hb5.mono (Nat.le_of_lt (by simp))))
            clear hK K
            try simp only [Act.put]
            try simp only [List.setIfInBounds_toArray]
            try simp only [List.set_cons_succ]
            try simp only [List.set_cons_zero]
            refine wpAnyH_take (i := 7) (oi := ⟨(some 24), _, _, _, _, _⟩) (v := .string (Pl.dig n ++ ls)) rfl (by kernel_rfl) (by kernel_rfl) (by kernel_rfl) (fun _ _ _ h => h) (Or.inl ⟨by rfl, ?_⟩) (by assumption) ?_
            · (intro w hSw; (try dsimp only at hSw); go_simp; try (first | rfl | (rw [if_neg hbig])))
            try simp only [Act.put]
            try simp only [List.setIfInBounds_toArray]
            try simp only [List.set_cons_succ]
            try simp only [List.set_cons_zero]
            refine wpAnyH_take (i := 8) (oi := ⟨(some 2), _, _, _, _, _⟩) (v := ?_) rfl (by kernel_rfl) (by kernel_rfl) (by kernel_rfl) (fun _ _ _ h => h) (Or.inl ⟨by rfl, ?_⟩) (by assumption) ?_
            rotate_left
            · (intro w hSw; (try dsimp only at hSw); go_simp <;> with_reducible rfl)
            try simp only [Act.put]
            try simp only [List.setIfInBounds_toArray]
            try simp only [List.set_cons_succ]
            try simp only [List.set_cons_zero]
            refine wpAnyH_done (by kernel_rfl) ?_ _
            refine NoPanic.normal ?_
            go_wp2
            go_ret
            exact ⟨Pl.ret_str HN.out.symm, HB0.out.trans (Below.mono ((((Below.refl _ _).alloc (Nat.le_refl _) _).drew).trans (hb5.mono (Nat.le_of_lt (by simp)))) (Nat.le_of_lt hzz))⟩
      | false =>
        have HN : Hid (res = ⟨#[]⟩) := show _ = _ by rw [HE.out]; rfl
        clear hL HE HR
        go_enter Tryd.func13, Tryd.ntmps13
        go_wp2_with (first | (go_at_call 37; refine (HIL.out _).mono ?_; rintro e w' ⟨rfl, rfl⟩))
        go_ret
        exact ⟨Pl.ret_str HN.out.symm, HB.out⟩
    · have hq : q1 = false := by rw [HR.out, decide_eq_false r1]; simp
      subst hq
      have HN : Hid (res = ⟨#[]⟩) := show _ = _ by rw [HE.out]; rfl
      clear hL HE HR
      have hd : decide (99 < s1) = true := by simp; omega
      go_enter Tryd.func13, Tryd.ntmps13
      go_wp2_with (first | (go_at_call 37; refine (HIL.out _).mono ?_; rintro e w' ⟨rfl, rfl⟩))
      go_ret
      exact ⟨Pl.ret_str HN.out.symm, HB.out⟩
  · have hq : q1 = false := by rw [HR.out, decide_eq_false r0]; rfl
    subst hq
    have HN : Hid (res = ⟨#[]⟩) := show _ = _ by rw [HE.out]; rfl
    clear hL HE HR
    go_enter Tryd.func13, Tryd.ntmps13
    go_wp2_with (first | (go_at_call 37; refine (HIL.out _).mono ?_; rintro e w' ⟨rfl, rfl⟩))
    go_ret
    exact ⟨Pl.ret_str HN.out.symm, HB.out⟩
end Go.Proofs.YtonfkonjkgalhaaDoor
