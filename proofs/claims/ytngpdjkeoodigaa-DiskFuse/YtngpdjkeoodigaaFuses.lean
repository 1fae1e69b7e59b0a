/- DiskFuse: by a fuse just so many writes and flushes are done; for every input. -/
import Derived.Test.YtngpdjkeoodigaaFuseA
namespace Go.Proofs.Ytngpdjkeoodigaa
open Go.ChangeShapes Go.WideShapes Go.ChangeAt Go.RowKit
set_option linter.unusedVariables false

set_option maxRecDepth 100000 in
set_option maxHeartbeats 4000000 in
theorem fuse_walk (w : World) (after : Int) (wf : (Lit.int .i64 after).wf = true) (A : Option Addr) (m : List Bool) (c : Nat) (hb : Dk.Bls w (· < w.heap.size) A m ∧ m.length ≤ 9223372036854775807 ∧ m.length ≤ c ∧ (A = none → c = 0)) (keep : Bool) :
    Calls Try.prog 6 #[.int .i64 after, .slice A m.length c, .bool keep] w fun e w' => e = .returned (.bool true) ∧ Below w.heap.size w w' := by
  obtain ⟨hlo, hhi⟩ := bounds_i64 wf
  obtain ⟨hB, hm, -, -⟩ := hb
  have HB := Lib.hid hB
  clear wf hB
  by_cases h0 : after < 0
  · go_enter Try.func6, Try.ntmps6
    go_wp2_with (first
      | (go_at_call 8; refine (awake_any _).mono ?_; rintro e w1 ⟨rfl, hb1⟩)
      | (go_at_call 9; refine (new_live 3 _ (by omega) (by omega)).mono ?_; rintro e w2 ⟨rfl, HL⟩)
      | (go_at_call 24; refine (fuse_live after HL.out).mono ?_; rw [if_pos h0, if_pos h0]; rintro e w3 ⟨rfl, HL3, HS3⟩)
      | (go_at_call 15; refine (full_nil' HL3.out).mono ?_; rintro e w4 ⟨rfl, HQ, HS4⟩)
      | (go_at_call 16; refine (write_calm HQ.out Dk.length_zeros (by rfl) (by rfl) (by rfl) (by decide) (by decide) (by decide)).mono ?_; rintro e w5 ⟨rfl, HQ5, HS5⟩))
    go_ret
    exact ⟨rfl, hb1.trans (HQ5.out.1.bl.mono hb1.size)⟩
  · have h0' : 0 ≤ after := by omega
    go_enter Try.func6, Try.ntmps6
    go_wp2_with (first
      | (go_at_call 8; refine (awake_any _).mono ?_; rintro e w1 ⟨rfl, hb1⟩)
      | (go_at_call 9; refine (new_live 3 _ (by omega) (by omega)).mono ?_; rintro e w2 ⟨rfl, HL⟩)
      | (go_at_call 24; refine (fuse_ok after HL.out (by omega) rfl).mono ?_; rintro e w3 ⟨rfl, HL3, HS3⟩))
    have HI0 : Hid (Dk.FInv after 0 0 { Dk.S.new 3 with fused := true, left := after }) := ⟨rfl, rfl, rfl, by simp, by simp [Dk.S.new], by simp [Dk.S.new], rfl⟩
    have HBw : Hid (∀ w', Below w1.heap.size w1 w' → Dk.Bls w' (· < w.heap.size) A m) := fun w' hb' hl => by
      obtain ⟨b, off, e, hB, hc⟩ := HB.out hl
      exact ⟨b, off, e, hB, fun j hj => ((hb1.trans (hb'.mono hb1.size)).cell (p := ⟨b, off + j, none⟩) hB).trans (hc j hj)⟩
    clear HB HL HS3
    go_loopw [9, 10] (fun a i wr => ∃ (n j : Nat) (s : Dk.S), j ≤ 100 ∧ n ≤ j ∧ (j : Int) ≤ after ∧ a = .int .i64 n ∧ i = .int .i64 j ∧ Hid (Dk.Live w1 (fun _ => False) wr (w1.heap.size + 1 + 1) s) ∧ Hid (Dk.FInv after j n s)) (fun _ i _ => 100 - (intOf i).toNat)
    case atStart => exact ⟨0, 0, _, by omega, by omega, by omega, rfl, rfl, HL3, HI0⟩
    case round =>
      obtain ⟨n, j, s, hj, hn, hja, rfl, rfl, HLj, HIj⟩ := hrel
      clear HI0 HL3
      by_cases h1 : j < m.length
      · by_cases h2 : j < 100
        · obtain ⟨mb, mo, rfl, -, -⟩ := HBw.out wr HLj.out.bl (by omega)
          have HC : Hid (∀ w', Below w1.heap.size w1 w' → w'.cell? ⟨mb, mo + j, none⟩ = some (.bool m[j])) := fun w' hb' => by
            obtain ⟨b', o', e, _, hc⟩ := HBw.out w' hb' (by omega)
            injection e with e
            injection e with e1 e2
            subst e1
            subst e2
            exact hc j h1
          have W7 : s.wcode 7 0 = 1 := Dk.wcode_far (Dk.hasn_of (by rw [HIj.out.n3]; omega))
          have W1 : s.wcode 1 0 = 2 := Dk.wcode_short (Dk.has_of (by omega) (by rw [HIj.out.n3]; omega))
          have HW := Lib.hid (show s.wait.length < 100000 by rw [HIj.out.ln]; omega)
          have HA := Lib.hid (show 0 ≤ s.left ∧ s.left ≤ 9223372036854775807 by rw [HIj.out.le]; omega)
          have HH := Lib.hid (show s.has (((j % 3 : Nat)) : Int) = true from Dk.has_of (by omega) (by rw [HIj.out.n3]; omega))
          generalize hfl : m[j] = fl at HC
          clear HBw hfl
          by_cases h3 : (j : Int) < after
          · cases fl with
            | true =>
              go_wp2_with (first
                | (go_at_call 16; refine (write_nil _ HLj.out HW.out HA.out.1 HA.out.2).mono ?_; rintro e w4 ⟨rfl, HLn, HSn⟩; clear HSn HLj; have HLj := HLn; clear HLn)
                | (go_at_call 20; refine (down_live HLj.out).mono ?_; rw [HIj.out.up]; rintro e w4 ⟨rfl, rfl⟩)
                | (go_at_call 15; refine (full_two HLj.out (by omega) (by omega)).mono ?_; rintro e w5 ⟨rfl, HQ', HSn⟩; have hc5 := HC.out w5 HQ'.out.1.bl; clear HSn HLj; generalize w4.heap.size = g0 at HQ' ⊢; have HQ : Hid (Dk.Ready _ _ _ _ _ _ (Dk.nth j)) := HQ'; clear HQ')
                | (go_at_call 23; refine (flush_live HQ.out.1 HW.out HA.out.1 HA.out.2).mono ?_; rw [HIj.out.fcode h3]; rintro e w6 ⟨rfl, HL6, HS6⟩; have hc6 := HC.out w6 HL6.out.bl; have HI6 := Lib.hid (HIj.out.flush h3); clear HS6)
                | (go_at_call 17; refine (waiting_live HL6.out).mono ?_; rw [HI6.out.ln]; rintro e w7 ⟨rfl, rfl⟩))
              go_roundw
              case rel => exact ⟨0, j + 1, _, by omega, by omega, by omega, rfl, by go_num, HL6.out.fewer (fun _ h => h.elim), HI6⟩
              case measure => simp [intOf]; omega
            | false =>
              go_wp2_with (first
                | (go_at_call 16; refine (write_nil _ HLj.out HW.out HA.out.1 HA.out.2).mono ?_; rintro e w4 ⟨rfl, HLn, HSn⟩; clear HSn HLj; have HLj := HLn; clear HLn)
                | (go_at_call 20; refine (down_live HLj.out).mono ?_; rw [HIj.out.up]; rintro e w4 ⟨rfl, rfl⟩)
                | (go_at_call 15; refine (full_two HLj.out (by omega) (by omega)).mono ?_; rintro e w5 ⟨rfl, HQ', HSn⟩; have hc5 := HC.out w5 HQ'.out.1.bl; clear HSn HLj; generalize w4.heap.size = g0 at HQ' ⊢; have HQ : Hid (Dk.Ready _ _ _ _ _ _ (Dk.nth j)) := HQ'; clear HQ')
                | (go_at_call 16; refine (write_live (((j % 3 : Nat)) : Int) HQ.out (Dk.length_nth j) HW.out HA.out.1 HA.out.2).mono ?_; rw [HIj.out.wcode h3 _ HH.out]; rintro e w6 ⟨rfl, HQ6, HS6⟩; have hc6 := HC.out w6 HQ6.out.1.bl; have HI6 := Lib.hid (HIj.out.write h3 _ HH.out); clear HS6)
                | (go_at_call 17; refine (waiting_live HQ6.out.1).mono ?_; rw [HI6.out.ln]; rintro e w7 ⟨rfl, rfl⟩))
              go_roundw
              case rel => exact ⟨n + 1, j + 1, _, by omega, by omega, by omega, by go_num, by go_num, HQ6.out.1.fewer (fun _ h => h.elim), HI6⟩
              case measure => simp [intOf]; omega
          · have H3E := Lib.hid (show (j : Int) = after by omega)
            cases fl with
            | true =>
              go_wp2_with (first
                | (go_at_call 16; refine (write_nil _ HLj.out HW.out HA.out.1 HA.out.2).mono ?_; rintro e w4 ⟨rfl, HLn, HSn⟩; clear HSn HLj; have HLj := HLn; clear HLn)
                | (go_at_call 20; first | (refine (down_live HLj.out).mono ?_; rw [HIj.out.up]; rintro e w4 ⟨rfl, rfl⟩) | (refine (down_live HQ6.out.1).mono ?_; rw [HD6.out.1]; rintro e w4 ⟨rfl, rfl⟩))
                | (go_at_call 15; refine (full_two HLj.out (by omega) (by omega)).mono ?_; rintro e w5 ⟨rfl, HQ', HSn⟩; have hc5 := HC.out w5 HQ'.out.1.bl; clear HSn HLj; generalize w4.heap.size = g0 at HQ' ⊢; have HQ : Hid (Dk.Ready _ _ _ _ _ _ (Dk.nth j)) := HQ'; clear HQ')
                | (go_at_call 23; first | (refine (flush_live HQ.out.1 HW.out HA.out.1 HA.out.2).mono ?_; rw [HIj.out.fcode_die H3E.out, HIj.out.flush_die H3E.out]; rintro e w6 ⟨rfl, HL6, HS6⟩; have hc6 := HC.out w6 HL6.out.bl; obtain ⟨t, HQ6, HD6⟩ : ∃ t, Hid (Dk.Ready w1 (fun _ => False) w6 (w1.heap.size + 1 + 1) t (g0 + 1) (Dk.nth j)) ∧ Hid (t.down = true ∧ t.n = 3 ∧ t.wait.length = n ∧ 0 ≤ t.left ∧ t.left ≤ 9223372036854775807) := ⟨_, HQ.out.next HL6.out HS6.out, ⟨rfl, HIj.out.n3, HIj.out.ln, HA.out⟩⟩; clear HQ HL6 HS6) | (refine (flush_down HQ6.out.1 HD6.out.1 (by rw [HD6.out.2.2.1]; omega) HD6.out.2.2.2.1 HD6.out.2.2.2.2).mono ?_; rintro e w7 ⟨rfl, HL7, HS7⟩; have HQ7 := Lib.hid (HQ6.out.next HL7.out HS7.out); clear HQ6 HL7 HS7))
                | (go_at_call 17; refine (waiting_live HQ6.out.1).mono ?_; rw [HD6.out.2.2.1]; rintro e w7 ⟨rfl, rfl⟩)
                | (go_at_call 24; refine (fuse_down HQ7.out.1 (by omega) HD6.out.1).mono ?_; rintro e w8 ⟨rfl, HL8, HS8⟩; have HQ8 := Lib.hid (HQ7.out.next HL8.out HS8.out); clear HQ7 HL8 HS8)
                | (refine Dk.wpList_makeB rfl _ _ rfl (n) _ _ rfl rfl (by omega) (by omega) (by omega) ?_; intro w9 HBR hb9 hs9))
              have HL9 := Lib.hid (HQ8.out.1.more hb9 hs9)
              have HR9 : Hid (Dk.Row w9 (g0 + 1) 5 (Dk.nth j)) := HQ8.out.2.1.kept (hb9.block _ HQ8.out.2.1.lt)
              have hgg : g0 + 1 ≠ w8.heap.size := Nat.ne_of_lt HQ8.out.2.1.lt
              have hg1 : w1.heap.size ≤ g0 + 1 := HQ8.out.2.2
              have hg2 : w1.heap.size ≤ w8.heap.size := HQ8.out.1.bl.size
              clear HQ8 HIj hb9 hs9
              go_loopw [13] (fun a wr2 => ∃ k : Nat, k ≤ n ∧ a = .int .i64 k ∧ Hid (Dk.Live w1 (fun k => (False ∨ k = g0 + 1) ∨ k = w8.heap.size) wr2 (w1.heap.size + 1 + 1) t) ∧ Hid (Dk.Row wr2 (g0 + 1) 5 (Dk.nth j)) ∧ Hid (Dk.BRow wr2 w8.heap.size (Dk.told keep (n) k))) (fun a _ => n - (intOf a).toNat)
              case atStart => exact ⟨0, by omega, rfl, HL9, HR9, by rw [Dk.told_zero]; exact HBR⟩
              case round =>
                obtain ⟨k, hk, rfl, HLk, HRk, HBk⟩ := hrel
                by_cases hkn : k < n
                · have hlen := Dk.length_told keep (n) k hk
                  have k1 := HBk.out.cell k (by omega)
                  have k2 := HBk.out.free k
                  have HN := Lib.hid (HBk.out.set k keep)
                  rw [Dk.told_succ keep (n) k hkn] at HN
                  have HLn := Lib.hid (HLk.out.fr (Dk.Fr.setCell wr (p := ⟨w8.heap.size, k, none⟩) (.inr rfl) (.bool keep)) (fun q hq => by rcases hq with (hq | hq) | hq <;> first | exact hq.elim | omega))
                  have HRn : Hid (Dk.Row (wr.setCell ⟨w8.heap.size, k, none⟩ (.bool keep)) (g0 + 1) 5 (Dk.nth j)) := HRk.out.kept (Below.heap_setCell _ _ _ _ hgg)
                  go_wp2
                  go_roundw
                  case rel => exact ⟨k + 1, by omega, by go_num, HLn, HRn, HN⟩
                  case measure => simp [intOf]; omega
                · have hke : k = n := by omega
                  subst hke
                  rw [Dk.told_all] at HBk
                  clear hkn hk
                  go_wp2_with (first
                    | (go_at_call 19; refine (restart_len HLk.out (HBk.out.bls _ (.inr (.inr rfl))) (by simp) (by rw [HD6.out.2.2.1]; omega)).mono ?_; rintro e w10 ⟨rfl, HL10, HS10⟩; have HR10 := Lib.hid (HRk.out.kept (HS10.out _ (.inl (.inr rfl)))); clear HS10)
                    | (go_at_call 22; refine (read_live (((j % 3 : Nat)) : Int) HL10.out (Dk.has_of (by omega) (by rw [show (t.restart _).n = t.n from rfl, HD6.out.2.1]; omega)) rfl).mono ?_; rintro e w11 ⟨rfl, HL11, HG11, HS11⟩; have hc11 := HC.out w11 HL11.out.bl; have HR11 := Lib.hid (HR10.out.kept (HS11.out _ (.inl (.inr rfl))));)
                    | (go_at_call 17; refine (waiting_live HL11.out).mono ?_; rintro e w12 ⟨rfl, rfl⟩))
                  go_ret
                  exact ⟨rfl, hb1.trans (HL11.out.bl.mono hb1.size)⟩
            | false =>
              cases keep with
              | true =>
                go_wp2_with (first
                  | (go_at_call 16; first | (refine (write_live (((j % 3 : Nat)) : Int) HQ.out (Dk.length_nth j) HW.out HA.out.1 HA.out.2).mono ?_; rw [HIj.out.wcode_die H3E.out _ HH.out, HIj.out.write_die H3E.out _ HH.out]; rintro e w6 ⟨rfl, HQ5, HS6⟩; have hc6 := HC.out w6 HQ5.out.1.bl; obtain ⟨t, HQ6, HD6, HGT⟩ : ∃ t, Hid (Dk.Ready w1 (fun _ => False) w6 (w1.heap.size + 1 + 1) t (g0 + 1) (Dk.nth j)) ∧ Hid (t.down = true ∧ t.n = 3 ∧ t.wait.length = n + 1 ∧ 0 ≤ t.left ∧ t.left ≤ 9223372036854775807) ∧ Hid ((t.restart (List.replicate (n + 1) true)).get (((j % 3 : Nat)) : Int) = Dk.nth j) := ⟨_, HQ5, ⟨rfl, HIj.out.n3, by simp [HIj.out.ln], HA.out⟩, Dk.restart_get_true s _ _ _ (by simp [HIj.out.ln])⟩; clear HQ HQ5 HS6) | (refine (write_nil _ HLj.out HW.out HA.out.1 HA.out.2).mono ?_; rintro e w4 ⟨rfl, HLn, HSn⟩; clear HSn HLj; have HLj := HLn; clear HLn))
                  | (go_at_call 20; first | (refine (down_live HLj.out).mono ?_; rw [HIj.out.up]; rintro e w4 ⟨rfl, rfl⟩) | (refine (down_live HQ6.out.1).mono ?_; rw [HD6.out.1]; rintro e w4 ⟨rfl, rfl⟩))
                  | (go_at_call 15; refine (full_two HLj.out (by omega) (by omega)).mono ?_; rintro e w5 ⟨rfl, HQ', HSn⟩; have hc5 := HC.out w5 HQ'.out.1.bl; clear HSn HLj; generalize w4.heap.size = g0 at HQ' ⊢; have HQ : Hid (Dk.Ready _ _ _ _ _ _ (Dk.nth j)) := HQ'; clear HQ')
                  | (go_at_call 23; (refine (flush_down HQ6.out.1 HD6.out.1 (by rw [HD6.out.2.2.1]; omega) HD6.out.2.2.2.1 HD6.out.2.2.2.2).mono ?_; rintro e w7 ⟨rfl, HL7, HS7⟩; have HQ7 := Lib.hid (HQ6.out.next HL7.out HS7.out); clear HQ6 HL7 HS7))
                  | (go_at_call 17; refine (waiting_live HQ6.out.1).mono ?_; rw [HD6.out.2.2.1]; rintro e w7 ⟨rfl, rfl⟩)
                  | (go_at_call 24; refine (fuse_down HQ7.out.1 (by omega) HD6.out.1).mono ?_; rintro e w8 ⟨rfl, HL8, HS8⟩; have HQ8 := Lib.hid (HQ7.out.next HL8.out HS8.out); clear HQ7 HL8 HS8)
                  | (refine Dk.wpList_makeB rfl _ _ rfl (n + 1) _ _ rfl rfl (by omega) (by omega) (by omega) ?_; intro w9 HBR hb9 hs9))
                have HL9 := Lib.hid (HQ8.out.1.more hb9 hs9)
                have HR9 : Hid (Dk.Row w9 (g0 + 1) 5 (Dk.nth j)) := HQ8.out.2.1.kept (hb9.block _ HQ8.out.2.1.lt)
                have hgg : g0 + 1 ≠ w8.heap.size := Nat.ne_of_lt HQ8.out.2.1.lt
                have hg1 : w1.heap.size ≤ g0 + 1 := HQ8.out.2.2
                have hg2 : w1.heap.size ≤ w8.heap.size := HQ8.out.1.bl.size
                clear HQ8 HIj hb9 hs9
                go_loopw [13] (fun a wr2 => ∃ k : Nat, k ≤ n + 1 ∧ a = .int .i64 k ∧ Hid (Dk.Live w1 (fun k => (False ∨ k = g0 + 1) ∨ k = w8.heap.size) wr2 (w1.heap.size + 1 + 1) t) ∧ Hid (Dk.Row wr2 (g0 + 1) 5 (Dk.nth j)) ∧ Hid (Dk.BRow wr2 w8.heap.size (Dk.told true (n + 1) k))) (fun a _ => n + 1 - (intOf a).toNat)
                case atStart => exact ⟨0, by omega, rfl, HL9, HR9, by rw [Dk.told_zero]; exact HBR⟩
                case round =>
                  obtain ⟨k, hk, rfl, HLk, HRk, HBk⟩ := hrel
                  by_cases hkn : k < n + 1
                  · have hlen := Dk.length_told true (n + 1) k hk
                    have k1 := HBk.out.cell k (by omega)
                    have k2 := HBk.out.free k
                    have HN := Lib.hid (HBk.out.set k true)
                    rw [Dk.told_succ true (n + 1) k hkn] at HN
                    have HLn := Lib.hid (HLk.out.fr (Dk.Fr.setCell wr (p := ⟨w8.heap.size, k, none⟩) (.inr rfl) (.bool true)) (fun q hq => by rcases hq with (hq | hq) | hq <;> first | exact hq.elim | omega))
                    have HRn : Hid (Dk.Row (wr.setCell ⟨w8.heap.size, k, none⟩ (.bool true)) (g0 + 1) 5 (Dk.nth j)) := HRk.out.kept (Below.heap_setCell _ _ _ _ hgg)
                    go_wp2
                    go_roundw
                    case rel => exact ⟨k + 1, by omega, by go_num, HLn, HRn, HN⟩
                    case measure => simp [intOf]; omega
                  · have hke : k = n + 1 := by omega
                    subst hke
                    rw [Dk.told_all] at HBk
                    clear hkn hk
                    go_wp2_with (first
                      | (go_at_call 19; refine (restart_len HLk.out (HBk.out.bls _ (.inr (.inr rfl))) (by simp) (by rw [HD6.out.2.2.1]; omega)).mono ?_; rintro e w10 ⟨rfl, HL10, HS10⟩; have HR10 := Lib.hid (HRk.out.kept (HS10.out _ (.inl (.inr rfl)))); clear HS10)
                      | (go_at_call 22; refine (read_live (((j % 3 : Nat)) : Int) HL10.out (Dk.has_of (by omega) (by rw [show (t.restart _).n = t.n from rfl, HD6.out.2.1]; omega)) rfl).mono ?_; rintro e w11 ⟨rfl, HL11, HG11, HS11⟩; have hc11 := HC.out w11 HL11.out.bl; have HR11 := Lib.hid (HR10.out.kept (HS11.out _ (.inl (.inr rfl)))); rw [HGT.out] at HG11; have q1 := Dk.conv512 HG11.out (Dk.length_nth j); have q2 := Dk.conv512 HR11.out (Dk.length_nth j); have q3 := Dk.str_bytes (Dk.nth j) (Dk.nth j); rw [decide_eq_true rfl] at q3)
                      | (go_at_call 17; refine (waiting_live HL11.out).mono ?_; rintro e w12 ⟨rfl, rfl⟩))
                    go_ret
                    exact ⟨rfl, hb1.trans (HL11.out.bl.mono hb1.size)⟩
              | false =>
                go_wp2_with (first
                  | (go_at_call 16; first | (refine (write_live (((j % 3 : Nat)) : Int) HQ.out (Dk.length_nth j) HW.out HA.out.1 HA.out.2).mono ?_; rw [HIj.out.wcode_die H3E.out _ HH.out, HIj.out.write_die H3E.out _ HH.out]; rintro e w6 ⟨rfl, HQ5, HS6⟩; have hc6 := HC.out w6 HQ5.out.1.bl; obtain ⟨t, HQ6, HD6, HGT⟩ : ∃ t, Hid (Dk.Ready w1 (fun _ => False) w6 (w1.heap.size + 1 + 1) t (g0 + 1) (Dk.nth j)) ∧ Hid (t.down = true ∧ t.n = 3 ∧ t.wait.length = n + 1 ∧ 0 ≤ t.left ∧ t.left ≤ 9223372036854775807) ∧ Hid (∃ L, (t.restart (List.replicate (n + 1) false)).get (((j % 3 : Nat)) : Int) = L ∧ L ≠ Dk.nth j ∧ L.length = 512) := ⟨_, HQ5, ⟨rfl, HIj.out.n3, by simp [HIj.out.ln], HA.out⟩, ⟨_, Dk.restart_get_false s _ _ _, HIj.out.unlike h2 _, HIj.out.len _⟩⟩; clear HQ HQ5 HS6) | (refine (write_nil _ HLj.out HW.out HA.out.1 HA.out.2).mono ?_; rintro e w4 ⟨rfl, HLn, HSn⟩; clear HSn HLj; have HLj := HLn; clear HLn))
                  | (go_at_call 20; first | (refine (down_live HLj.out).mono ?_; rw [HIj.out.up]; rintro e w4 ⟨rfl, rfl⟩) | (refine (down_live HQ6.out.1).mono ?_; rw [HD6.out.1]; rintro e w4 ⟨rfl, rfl⟩))
                  | (go_at_call 15; refine (full_two HLj.out (by omega) (by omega)).mono ?_; rintro e w5 ⟨rfl, HQ', HSn⟩; have hc5 := HC.out w5 HQ'.out.1.bl; clear HSn HLj; generalize w4.heap.size = g0 at HQ' ⊢; have HQ : Hid (Dk.Ready _ _ _ _ _ _ (Dk.nth j)) := HQ'; clear HQ')
                  | (go_at_call 23; (refine (flush_down HQ6.out.1 HD6.out.1 (by rw [HD6.out.2.2.1]; omega) HD6.out.2.2.2.1 HD6.out.2.2.2.2).mono ?_; rintro e w7 ⟨rfl, HL7, HS7⟩; have HQ7 := Lib.hid (HQ6.out.next HL7.out HS7.out); clear HQ6 HL7 HS7))
                  | (go_at_call 17; refine (waiting_live HQ6.out.1).mono ?_; rw [HD6.out.2.2.1]; rintro e w7 ⟨rfl, rfl⟩)
                  | (go_at_call 24; refine (fuse_down HQ7.out.1 (by omega) HD6.out.1).mono ?_; rintro e w8 ⟨rfl, HL8, HS8⟩; have HQ8 := Lib.hid (HQ7.out.next HL8.out HS8.out); clear HQ7 HL8 HS8)
                  | (refine Dk.wpList_makeB rfl _ _ rfl (n + 1) _ _ rfl rfl (by omega) (by omega) (by omega) ?_; intro w9 HBR hb9 hs9))
                have HL9 := Lib.hid (HQ8.out.1.more hb9 hs9)
                have HR9 : Hid (Dk.Row w9 (g0 + 1) 5 (Dk.nth j)) := HQ8.out.2.1.kept (hb9.block _ HQ8.out.2.1.lt)
                have hgg : g0 + 1 ≠ w8.heap.size := Nat.ne_of_lt HQ8.out.2.1.lt
                have hg1 : w1.heap.size ≤ g0 + 1 := HQ8.out.2.2
                have hg2 : w1.heap.size ≤ w8.heap.size := HQ8.out.1.bl.size
                clear HQ8 HIj hb9 hs9
                go_loopw [13] (fun a wr2 => ∃ k : Nat, k ≤ n + 1 ∧ a = .int .i64 k ∧ Hid (Dk.Live w1 (fun k => (False ∨ k = g0 + 1) ∨ k = w8.heap.size) wr2 (w1.heap.size + 1 + 1) t) ∧ Hid (Dk.Row wr2 (g0 + 1) 5 (Dk.nth j)) ∧ Hid (Dk.BRow wr2 w8.heap.size (Dk.told false (n + 1) k))) (fun a _ => n + 1 - (intOf a).toNat)
                case atStart => exact ⟨0, by omega, rfl, HL9, HR9, by rw [Dk.told_zero]; exact HBR⟩
                case round =>
                  obtain ⟨k, hk, rfl, HLk, HRk, HBk⟩ := hrel
                  by_cases hkn : k < n + 1
                  · have hlen := Dk.length_told false (n + 1) k hk
                    have k1 := HBk.out.cell k (by omega)
                    have k2 := HBk.out.free k
                    have HN := Lib.hid (HBk.out.set k false)
                    rw [Dk.told_succ false (n + 1) k hkn] at HN
                    have HLn := Lib.hid (HLk.out.fr (Dk.Fr.setCell wr (p := ⟨w8.heap.size, k, none⟩) (.inr rfl) (.bool false)) (fun q hq => by rcases hq with (hq | hq) | hq <;> first | exact hq.elim | omega))
                    have HRn : Hid (Dk.Row (wr.setCell ⟨w8.heap.size, k, none⟩ (.bool false)) (g0 + 1) 5 (Dk.nth j)) := HRk.out.kept (Below.heap_setCell _ _ _ _ hgg)
                    go_wp2
                    go_roundw
                    case rel => exact ⟨k + 1, by omega, by go_num, HLn, HRn, HN⟩
                    case measure => simp [intOf]; omega
                  · have hke : k = n + 1 := by omega
                    subst hke
                    rw [Dk.told_all] at HBk
                    clear hkn hk
                    go_wp2_with (first
                      | (go_at_call 19; refine (restart_len HLk.out (HBk.out.bls _ (.inr (.inr rfl))) (by simp) (by rw [HD6.out.2.2.1]; omega)).mono ?_; rintro e w10 ⟨rfl, HL10, HS10⟩; have HR10 := Lib.hid (HRk.out.kept (HS10.out _ (.inl (.inr rfl)))); clear HS10)
                      | (go_at_call 22; refine (read_live (((j % 3 : Nat)) : Int) HL10.out (Dk.has_of (by omega) (by rw [show (t.restart _).n = t.n from rfl, HD6.out.2.1]; omega)) rfl).mono ?_; rintro e w11 ⟨rfl, HL11, HG11, HS11⟩; have hc11 := HC.out w11 HL11.out.bl; have HR11 := Lib.hid (HR10.out.kept (HS11.out _ (.inl (.inr rfl)))); obtain ⟨L, hL, hLn, hLl⟩ := HGT.out; rw [hL] at HG11; have q1 := Dk.conv512 HG11.out hLl; have q2 := Dk.conv512 HR11.out (Dk.length_nth j); have q3 := Dk.str_bytes L (Dk.nth j); rw [decide_eq_false hLn] at q3; have q4 : (L == Dk.nth j) = false := beq_eq_false_iff_ne.2 hLn; clear hL hLn hLl)
                      | (go_at_call 17; refine (waiting_live HL11.out).mono ?_; rintro e w12 ⟨rfl, rfl⟩))
                    go_ret
                    exact ⟨rfl, hb1.trans (HL11.out.bl.mono hb1.size)⟩
        · have h2' : j = 100 := by omega
          subst h2'
          go_wp2_with (first
            | (go_at_call 20; refine (down_live HLj.out).mono ?_; rw [HIj.out.up]; rintro e w4 ⟨rfl, rfl⟩)
            | (go_at_call 17; refine (waiting_live HLj.out).mono ?_; rw [HIj.out.ln]; rintro e w4 ⟨rfl, rfl⟩))
          go_ret
          exact ⟨rfl, hb1.trans (HLj.out.bl.mono hb1.size)⟩
      · go_wp2_with (first
          | (go_at_call 20; refine (down_live HLj.out).mono ?_; rw [HIj.out.up]; rintro e w4 ⟨rfl, rfl⟩)
          | (go_at_call 17; refine (waiting_live HLj.out).mono ?_; rw [HIj.out.ln]; rintro e w4 ⟨rfl, rfl⟩))
        go_ret
        exact ⟨rfl, hb1.trans (HLj.out.bl.mono hb1.size)⟩

set_option maxRecDepth 100000 in
theorem diskFuse_lifted (os : Os) (started : os.Started) (H : Type) (enc : TypeId × Value → H) :
    ReturnsInHanded {} Try.checked os 6 .any (Rows.diskFuseSpec.pre6 enc Try.prog Try.f6 Rows.diskFuseRow.domain false) (Rows.diskFuseSpec.post enc Try.prog Try.f6 false true false false) := by
  refine returnsInHanded_of_change (C := Try.checked) own started (by kernel_rfl) Try.func6
    (ChangeSpec.witness6 (enc := enc) (C := Try.checked) false ⟨#[], #[.int .i64 0, .slice none 0 0, .bool false], []⟩ 8 (by kernel_rfl) (by kernel_rfl) (by kernel_rfl) (by kernel_rfl)) ?_
  intro W base args ds gs before hval0 hW hcnd _
  have hval : ∀ (j : Nat) t v, Try.f6.params[j]? = some t → args[j]? = some v → Value.okWide Try.prog W .any base t v := hval0
  have hW' := hW
  obtain ⟨p, q, hA0, hV, rfl, hfz, hnd⟩ := hW
  have hA : DataW.TrodAll enc Try.prog W 0 (fun _ => true) true Try.f6.params.toList args.toList ds p := hA0
  rw [Try.params6] at hA hval
  obtain ⟨v0, vs0, d0, ds0, p0, q0, hargs, rfl, rfl, h0, r0⟩ := trodAll_cons hA
  obtain ⟨v1, vs1, d1, ds1, p1, q1, rfl, rfl, rfl, h1, r1⟩ := trodAll_cons r0
  obtain ⟨v2, vs2, d2, ds2, p2, q2, rfl, rfl, rfl, h2, r2⟩ := trodAll_cons r1
  obtain ⟨rfl, rfl, rfl⟩ := trodAll_nil r2
  obtain rfl : args = #[v0, v1, v2] := by cases args; simp_all
  obtain ⟨rfl, rfl⟩ := trodVars_none hV
  obtain ⟨a0, rfl, rfl, rfl, w0⟩ := open_int Try.underlying3 (hval 0 3 v0 rfl rfl) h0
  obtain ⟨a1, len1, cap1, rfl⟩ := okWide_slice Try.underlying35 (hval 1 35 v1 rfl rfl)
  have k1 := h1
  have lt1 : ∀ x ∈ p1, x.block < W.heap.size := by obtain ⟨m, hm⟩ := k1; exact DataW.trod_lt m _ _ _ hm
  obtain ⟨fuel1, hf1⟩ := h1
  obtain ⟨A1, l1, c1, hcs1, b1⟩ := Dk.trod_bools hf1
  simp only [Value.cells, List.cons.injEq, and_true, Value.slice.injEq] at hcs1
  obtain ⟨rfl, rfl, rfl⟩ := hcs1
  obtain ⟨a2, rfl, rfl, rfl⟩ := open_bool Try.underlying4 (hval 2 4 v2 rfl rfl) h2
  clear hA0 hval0
  refine (fuse_walk W a0 w0 _ l1 _ b1 a2).mono fun e W' ⟨he, bel⟩ => ?_
  subst he
  exact ⟨_, rfl, _, _, _, [], _, [], hW', trodAll_mk1 (shut_bool Try.underlying4 _), (trodAll_cons_mk (shut_int Try.underlying3 w0) (trodAll_cons_mk (Below.trod laidOut (by kernel_rfl) (of_decide_eq_true (by kernel_rfl)) k1 bel lt1) (trodAll_cons_mk (shut_bool Try.underlying4 _) (trodAll_mk0)))), rfl, bel.frame _, fun h => by cases h⟩

/-- The statement DiskFuse. -/
theorem diskFuse_holds : Rows.DiskFuseSaid :=
  OpenClaim.holds_of_wide 6 Try.f6 rfl rfl rfl rfl rfl rfl rfl ⟨rfl, rfl, rfl, rfl, rfl⟩ rfl rfl rfl rfl rfl (by kernel_rfl) Try.func6 (by kernel_rfl)
    (of_decide_eq_true (by kernel_rfl)) (by unfold Func.isWrapper; first | (rw [if_pos (by decide +kernel)]; kernel_rfl) | (rw [if_neg (by decide +kernel)]; exact ⟨rfl, rfl⟩))
    (fun os started H enc _ => diskFuse_lifted os started H enc)
#print axioms diskFuse_holds

end Go.Proofs.Ytngpdjkeoodigaa
