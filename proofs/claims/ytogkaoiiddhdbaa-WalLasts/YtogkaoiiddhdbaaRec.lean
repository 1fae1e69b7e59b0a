/- Contracts of firstRecord and recordsOf. -/
import Derived.Test.YtogkaoiiddhdbaaTel
namespace Go.Proofs.Ytogkaoiiddhdbaa
open Go.RowKit

namespace Wl
theorem length_part {s : List UInt8} (h : s.length = 512) : (Wd.part s 17 491).length = 491 := by simp [Wd.part, h]
theorem length_bodies : ∀ (l : List (List UInt8)), (∀ s ∈ l, s.length = 512) → (bodies l).length = l.length * 491
  | [], _ => by simp [bodies]
  | s :: l, h => by
    have := length_bodies l (fun x hx => h x (by simp [hx]))
    unfold bodies at this ⊢
    rw [List.map_cons, List.flatten_cons, List.length_append, this, length_part (h s (by simp)), List.length_cons]
    omega
theorem bodies_snoc (l : List (List UInt8)) (s : List UInt8) : bodies (l ++ [s]) = bodies l ++ Wd.part s 17 491 := by simp [bodies]
theorem bodies_take (l : List (List UInt8)) (j n : Nat) (hl : ∀ s ∈ l, s.length = 512) (hj : j < l.length) (_hn : j * 491 ≤ n) :
    (bodies (l.take j)).take n ++ (l[j].drop 17).take (min 491 (n - j * 491)) = (bodies (l.take (j + 1))).take n := by
  rw [← take_snoc l j hj, bodies_snoc]
  have hlen := length_bodies (l.take j) (fun s hs => hl s (List.mem_of_mem_take hs))
  rw [List.length_take, Nat.min_eq_left (by omega)] at hlen
  rw [List.take_append, hlen, Wd.part, List.take_take, Nat.min_comm]
theorem wpList_append8n {w : World} {ops : Array Oper} {rest : List Oper} {o : Oper} {a : Act} {Q : Exit → Act → World → Prop} (hgd : o.guard = none) (s x : Operand)
    (ho : o.op = .call { callee := .builtin .append, args := #[s, x], argTypes := #[40, 40] })
    (base : Nat) (v : Value) (l news L : List UInt8) (hown : OwnV w base v l) (hs : a.eval s = v) (A : Option Addr) (c n nL : Nat) (hx : a.eval x = .slice A n c) (hnn : n = news.length) (hn : A = none → c = 0) {G : Nat → Prop} (hr : Dk.Bts w G A news)
    (hL : l ++ news = L) (hnL : nL = L.length) (hlen : L.length ≤ 140737488355328) (hbase : base ≤ w.heap.size)
    (h : ∀ A' cap' w', Hid (OwnV w' base (.slice A' nL cap') L) → Below base w w' → wpList Try.prog ops Q rest (a.put o.dst (.slice A' nL cap')) w') : wpList Try.prog ops Q (o :: rest) a w := by
  subst hnn hnL
  exact wpList_append8 hgd s x ho base v l news L hs hown A c hx hn hr hL hlen hbase h
def FirstR (w : World) (o : Option (List UInt8)) (e : Ending) (w' : World) : Prop := match o with
  | none => e = .returned (.tuple #[.slice none 0 0, .bool false]) ∧ Below w.heap.size w w'
  | some r => ∃ A c, e = .returned (.tuple #[.slice A r.length c, .bool true]) ∧ Hid (OwnV w' w.heap.size (.slice A r.length c) r) ∧ Below w.heap.size w w'
theorem need_mul (n : Nat) : n ≤ need n * 491 := by unfold need; omega
theorem lt_need {j n : Nat} (h : j < need n) : j * 491 ≤ n := by unfold need at h; omega
end Wl

set_option maxHeartbeats 1000000 in
theorem firstRecord_any (w : World) (b off c : Nat) (ps : List (List UInt8)) (g num : Nat) (G : Nat → Prop) (h : Wl.Prts w G (some ⟨b, off, none⟩) ps) (hn : ps.length ≤ 1000000) (hl : ∀ s ∈ ps, s.length = 512) (h0 : 0 < ps.length) (hc : ps.length ≤ c) (hg : g < 4294967296) (hnum : num ≤ 9223372036854775807) :
    Calls Try.prog 99 #[.slice (some ⟨b, off, none⟩) ps.length c, .int .u32 (g : Int), .int .i64 (num : Int)] w fun e w' => Wl.FirstR w (Wl.firstRec ps g num) e w' := by
  have H := Lib.hid h.lt
  have HL := Lib.hid hl
  obtain ⟨b', off', A0, c0, e0, _, hc0, hB0, _, hcap0⟩ := h.at_ 0 h0
  injection e0 with e0
  injection e0 with e1 e2
  subst e1 e2
  rw [Nat.add_zero] at hc0
  have hl0 : ps[0].length = 512 := hl _ (List.getElem_mem h0)
  rw [hl0] at hc0 hcap0
  have HB0 := Lib.hid hB0
  have hlen := Wl.lenAt_lt ps[0]
  have hdef : Wl.firstRec ps g num = if 8192 < Wl.lenAt ps[0] then none else if ps.length < Wl.need (Wl.lenAt ps[0]) then none
      else if ps.take (Wl.need (Wl.lenAt ps[0])) = Wl.pieces g num ((Wl.bodies (ps.take (Wl.need (Wl.lenAt ps[0])))).take (Wl.lenAt ps[0])) then some ((Wl.bodies (ps.take (Wl.need (Wl.lenAt ps[0])))).take (Wl.lenAt ps[0])) else none := by
    cases ps with
    | nil => simp at h0
    | cons s l => rfl
  rw [hdef]
  clear hdef h hl hB0
  have hbl := Below.refl w.heap.size w
  have hnA : ∀ w1, Calls Try.prog 98 #[.slice A0 512 c0, .int .i64 13, .int .i64 4] w1 (fun e w' => e = .returned (.int .u64 ((Wl.lenAt ps[0] : Nat) : Int)) ∧ w1 = w') ∨ w1 ≠ w := fun w1 => by
    by_cases hw : w1 = w
    · left
      subst hw
      exact numberAt_sec _ A0 ps[0] c0 13 4 512 13 4 _ HB0.out hl0 rfl (by decide) (by decide) (by omega) (by omega) (by omega)
    · exact .inr hw
  have HNA : Hid (Calls Try.prog 98 #[.slice A0 512 c0, .int .i64 13, .int .i64 4] w (fun e w' => e = .returned (.int .u64 ((Wl.lenAt ps[0] : Nat) : Int)) ∧ w = w')) := (hnA w).resolve_right (fun h => h rfl)
  clear hnA HB0 hcap0 hl0
  generalize Wl.lenAt ps[0] = N at *
  by_cases h1 : 8192 < N
  · rw [if_pos h1]
    go_enter Try.func99, Try.ntmps99
    go_wp2_with (go_at_call 98; refine HNA.out.mono ?_; rintro e w1 ⟨rfl, rfl⟩)
    go_ret2
    exact ⟨rfl, hbl⟩
  · rw [if_neg h1]
    have hnd : Wl.need N ≤ 17 := by unfold Wl.need; omega
    have hnp := Wl.need_pos N
    have hmul := Wl.need_mul N
    have HLT : Hid (∀ j, j < Wl.need N → j * 491 ≤ N) := fun j hj => Wl.lt_need hj
    have HND : Hid (∀ w1, Calls Try.prog 11 #[.int .i64 (N : Int)] w1 fun e w' => e = .returned (.int .i64 (Wl.need N : Int)) ∧ w1 = w') := fun w1 => need_any N w1 (by omega)
    have HNN : Hid (∀ r : List UInt8, r.length = N → (Wl.pieces g num r).length = Wl.need N) := fun r hr => by rw [Wl.length_pieces, hr]
    generalize Wl.need N = M at *
    by_cases h2 : ps.length < M
    · rw [if_pos h2]
      go_enter Try.func99, Try.ntmps99
      go_wp2_with (first
        | (go_at_call 98; refine HNA.out.mono ?_; rintro e w1 ⟨rfl, rfl⟩)
        | (go_at_call 11; refine (HND.out _).mono ?_; rintro e w1 ⟨rfl, rfl⟩))
      go_ret2
      exact ⟨rfl, hbl⟩
    · rw [if_neg h2]
      have h3 : M ≤ ps.length := by omega
      have h4 : M ≤ c := by omega
      have hrl : ((Wl.bodies (ps.take M)).take N).length = N := by
        rw [List.length_take, Wl.length_bodies _ (fun s hs => HL.out s (List.mem_of_mem_take hs)), List.length_take]
        omega
      have HRL := Lib.hid hrl
      have hpl := HNN.out _ hrl
      have HPL := Lib.hid hpl
      have HBT : Hid (∀ j (hj : j < ps.length), j * 491 ≤ N → (Wl.bodies (ps.take j)).take N ++ (ps[j].drop 17).take (min 491 (N - j * 491)) = (Wl.bodies (ps.take (j + 1))).take N) := fun j hj hn => Wl.bodies_take ps j N HL.out hj hn
      have HBL : Hid (∀ j, j ≤ ps.length → j * 491 ≤ N → ((Wl.bodies (ps.take j)).take N).length = j * 491) := fun j hj hn => by
        rw [List.length_take, Wl.length_bodies _ (fun s hs => HL.out s (List.mem_of_mem_take hs)), List.length_take]
        omega
      have hd1 : decide ((8192 : Int) < (N : Int)) = false := decide_eq_false (by omega)
      have hd2 : decide (ps.length < M) = false := decide_eq_false (by omega)
      clear hrl hpl h2
      generalize hoo : (if ps.take M = Wl.pieces g num ((Wl.bodies (ps.take M)).take N) then some ((Wl.bodies (ps.take M)).take N) else none) = oo
      have HOO := Lib.hid hoo
      clear hoo
      go_enter Try.func99, Try.ntmps99
      go_wp2_with (first
        | (go_at_call 98; refine HNA.out.mono ?_; rintro e w1 ⟨rfl, rfl⟩)
        | (go_at_call 11; refine (HND.out _).mono ?_; rintro e w1 ⟨rfl, rfl⟩))
      go_loopw [11, 35] (fun v i wr => ∃ j z : Nat, j ≤ M ∧ i = .int .i64 j ∧ (∃ A' c', v = .slice A' z c') ∧ z = min N (j * 491) ∧ Hid (Wl.OwnV wr w.heap.size v ((Wl.bodies (ps.take j)).take N)) ∧ Below w.heap.size w wr) (fun _ i _ => M - (intOf i).toNat)
      case atStart => exact ⟨0, 0, by omega, rfl, ⟨none, 0, rfl⟩, by omega, by simp [Wl.bodies]; exact Wl.OwnV.none_ _ _, hbl⟩
      case round =>
        obtain ⟨j, z, hj, rfl, ⟨A', c', rfl⟩, hz, HO, hbj⟩ := hrel
        have hs0 := hbj.size
        by_cases hlt : j < M
        · have hjN := HLT.out j hlt
          have hzj : z = j * 491 := by omega
          clear hz
          obtain ⟨b2, off2, A2, c2, e2, _, hc2, hB2, _, hcap2⟩ := (H.out.kept (w' := wr) (fun q hq => hbj.block q hq.2)).at_ j (by omega)
          injection e2 with e2
          injection e2 with e3 e4
          subst e3 e4
          have hl2 := HL.out _ (List.getElem_mem (show j < ps.length by omega))
          rw [hl2] at hc2 hcap2
          obtain ⟨b3, off3, rfl, _⟩ := id hB2 (by omega)
          have hL := Lib.hid (HBT.out j (by omega) hjN)
          rw [← hzj] at hL
          have hlen1 : ((Wl.bodies (ps.take (j + 1))).take N).length = min N ((j + 1) * 491) := by
            rw [List.length_take, Wl.length_bodies _ (fun s hs => HL.out s (List.mem_of_mem_take hs)), List.length_take]
            omega
          have HLen1 := Lib.hid hlen1
          have HB2 := Lib.hid (Wl.btsSub hB2 17 (min 491 (N - z)))
          have hzN : z ≤ N := by omega
          have hmin : min 491 ((N : Int) - (z : Int)) = ((min 491 (N - z) : Nat) : Int) := by omega
          have hnl : min 491 (N - z) = ((ps[j].drop 17).take (min 491 (N - z))).length := by rw [List.length_take, List.length_drop, hl2]; omega
          have HNL := Lib.hid hnl
          have hp : min 491 (N - z) ≤ 491 := by omega
          clear hB2 hlen1 hnl hzj hjN
          generalize min 491 (N - z) = P at *
          generalize hY : min N ((j + 1) * 491) = Y at HLen1
          have HY := Lib.hid hY
          clear hY
          go_wp2_with (at_builtin; go_loud (refine Wl.wpList_append8n rfl (.tmp 44) (.tmp 48) rfl w.heap.size _ _ _ _ HO.out rfl (some ⟨b3, off3 + 17, none⟩) (c2 - 17) _ Y rfl (by rw [← HNL.out]; omega) (by simp) HB2.out hL.out HLen1.out.symm (by rw [HLen1.out, ← HY.out]; omega) hs0 ?_; intro A3 c3 w3 HO3 hb3))
          go_roundw
          case rel => exact ⟨j + 1, _, by omega, by go_num, ⟨A3, c3, rfl⟩, HY.out.symm, HO3, hbj.trans hb3⟩
          case measure => simp [intOf]; omega
        · have hjM : j = M := by omega
          subst hjM
          have hzN : z = N := by omega
          subst hzN
          clear hz
          have hO := HO.out
          have HB := Lib.hid (hO.bts' HRL.out.symm)
          have hcap := hO.lecap
          rw [HRL.out] at hcap
          generalize (Wl.bodies (ps.take j)).take z = r at *
          have HPC : Hid (Calls Try.prog 51 #[.int .u32 (g : Int), .int .i64 (num : Int), .slice A' z c'] wr fun e w' => Wl.NewR wr (Wl.pieces g num r) e w') := by
            have := pieces_any wr g num A' r c' _ HB.out (by rw [HRL.out]; exact hcap) hg hnum (by rw [HRL.out]; omega)
            rw [HRL.out] at this
            exact this
          have HPL2 := HPL.out
          clear HPL2
          go_wp2_with (go_at_call 51; refine HPC.out.mono ?_; rintro e w2 ⟨A2, c2, rfl, HR2, hb2⟩; rw [HPL.out])
          have hbw := hbj.trans (hb2.mono hs0)
          have HP2 := Lib.hid HR2.out.prts
          have HS2 : Hid (Wl.Prts w2 (fun k => G k ∧ k < w.heap.size) (some ⟨b, off, none⟩) ps) := H.out.kept (fun q hq => hbw.block q hq.2)
          have HO2 : Hid (Wl.OwnV w2 w.heap.size (.slice A' z c') r) := hO.below hb2
          clear hO
          go_loop [56] (fun i => ∃ k : Nat, k ≤ j ∧ i = .int .i64 k ∧ Hid (ps.take k = (Wl.pieces g num r).take k)) (fun i => j - (intOf i).toNat)
          case atStart => exact ⟨0, by omega, rfl, rfl⟩
          case round =>
            obtain ⟨k, hk, rfl, HK⟩ := hrel
            by_cases hkj : k < j
            · obtain ⟨b4, off4, A4, c4, e4, _, hc4, hB4, _, _⟩ := HS2.out.at_ k (by omega)
              injection e4 with e4
              injection e4 with e5 e6
              subst e5 e6
              obtain ⟨b5, off5, A5, c5, rfl, _, hc5, hB5, _, _⟩ := HP2.out.at_ k (by rw [HPL.out]; exact hkj)
              have hkps : k < ps.length := by omega
              have hkpl : k < (Wl.pieces g num r).length := by rw [HPL.out]; exact hkj
              have hl4 := HL.out _ (List.getElem_mem hkps)
              have hl5 : (Wl.pieces g num r)[k].length = 512 := by simp only [Wl.pieces, List.getElem_map]; exact Wl.length_piece _ _ _ _
              have HQ : Hid (Calls Try.prog 88 #[.slice A4 512 c4, .slice A5 512 c5] w2 fun e w' => e = .returned (.bool (decide (ps[k] = (Wl.pieces g num r)[k]))) ∧ w2 = w') := by
                have := equal_any w2 A4 A5 _ _ c4 c5 _ _ hB4 hB5
                rw [hl4, hl5] at this
                exact this
              rw [hl4] at hc4
              rw [hl5] at hc5
              clear hB4 hB5
              by_cases heq : ps[k] = (Wl.pieces g num r)[k]
              · have HK2 : Hid (ps.take (k + 1) = (Wl.pieces g num r).take (k + 1)) := show _ = _ by
                  rw [← Wl.take_snoc ps k hkps, ← Wl.take_snoc _ k hkpl, HK.out, heq]
                rw [decide_eq_true heq] at HQ
                clear heq hl4 hl5
                go_wp2_with (go_at_call 88; refine HQ.out.mono ?_; rintro e w3 ⟨rfl, rfl⟩)
                go_round
                case rel => exact ⟨k + 1, by omega, by go_num, HK2⟩
                case measure => simp [intOf]; omega
              · have HNE : Hid (¬ ps.take j = Wl.pieces g num r) := fun e => heq (by
                  have h1 : (ps.take j)[k]'(by rw [List.length_take]; omega) = ps[k] := List.getElem_take ..
                  rw [← h1]
                  congr 1)
                rw [decide_eq_false heq] at HQ
                clear heq hl4 hl5
                go_wp2_with (go_at_call 88; refine HQ.out.mono ?_; rintro e w3 ⟨rfl, rfl⟩)
                go_ret2
                have hoo := HOO.out
                rw [if_neg HNE.out] at hoo
                subst hoo
                exact ⟨rfl, hbw⟩
            · have HEQ : Hid (ps.take j = Wl.pieces g num r) := show _ = _ by
                have := HK.out
                rw [show k = j by omega, List.take_of_length_le (l := Wl.pieces g num r) (by rw [HPL.out]; exact Nat.le_refl _)] at this
                exact this
              go_wp2
              go_ret2
              have hoo := HOO.out
              rw [if_pos HEQ.out] at hoo
              subst hoo
              refine ⟨A', c', ?_, ?_, hbw⟩
              · rw [HRL.out]; rfl
              · rw [HRL.out]; exact HO2
namespace Wl
theorem firstRec_some {secs : List (List UInt8)} {g num : Nat} {r : List UInt8} (hl : ∀ s ∈ secs, s.length = 512) (h : firstRec secs g num = some r) : 0 < secs.length ∧ r.length ≤ 8192 ∧ need r.length ≤ secs.length ∧ secs.take (need r.length) = pieces g num r := by
  cases secs with
  | nil => cases h
  | cons s l =>
    unfold firstRec at h
    simp only at h
    split at h
    · cases h
    · rename_i h1
      split at h
      · cases h
      · rename_i h2
        split at h
        · rename_i h3
          injection h with h
          have hr : r.length = lenAt s := by
            have := need_mul (lenAt s)
            rw [← h, List.length_take, length_bodies _ (fun x hx => hl x (List.mem_of_mem_take hx)), List.length_take]
            omega
          rw [hr]
          refine ⟨by simp, by omega, by omega, ?_⟩
          rw [h3, h]
        · cases h
def lenOf : Value → Nat
  | .slice _ n _ => n
  | _ => 0
end Wl

set_option maxHeartbeats 400000 in
theorem recordsOf_any (w : World) (A : Option Addr) (c : Nat) (ps : List (List UInt8)) (g : Nat) (G : Nat → Prop) (h : Wl.Prts w G A ps) (hn : ps.length ≤ 900000) (hl : ∀ s ∈ ps, s.length = 512) (hc : ps.length ≤ c) (hg : g < 4294967296) :
    Calls Try.prog 89 #[.slice A ps.length c, .int .u32 (g : Int)] w fun e w' => Wl.NewR w (Wl.recs ps g) e w' := by
  have HL := Lib.hid hl
  have H0 := Lib.hid h.lt
  clear h hl
  generalize hN : ps.length = N at *
  have HN := Lib.hid hN
  have HE0 : Hid ([] ++ Wl.recsOf N (ps.drop 0) g 0 = Wl.recs ps g) := show _ = _ by rw [← hN]; rfl
  clear hN
  go_enter Try.func89, Try.ntmps89
  go_wp2
  go_loopw [0, 5] (fun a v wr => ∃ (k f : Nat) (rs : List (List UInt8)) (A' : Option Addr) (c' : Nat) (A1 : Option Addr) (c1 z j : Nat), a = .slice A' z c' ∧ v = .slice A1 j c1 ∧ k + z = N ∧ z ≤ f ∧ j ≤ k ∧ z ≤ c' ∧ Hid (j = rs.length) ∧ Hid (rs ++ Wl.recsOf f (ps.drop k) g j = Wl.recs ps g) ∧ Hid (Wl.Prts w (fun k => G k ∧ k < w.heap.size) A' (ps.drop k)) ∧ Hid (Wl.Rws wr w.heap.size (.slice A1 j c1) rs) ∧ Below w.heap.size w wr) (fun a _ _ => Wl.lenOf a)
  case atStart => exact ⟨0, N, [], A, c, none, 0, N, 0, rfl, rfl, by omega, by omega, by omega, hc, rfl, HE0, H0, Wl.Rws.nil _ _, Below.refl _ _⟩
  case round =>
    obtain ⟨k, f, rs, A', c', A1, c1, z, j, rfl, rfl, hkz, hzf, hjk, hzc, HJ, HE, HP, HR, hbk⟩ := hrel
    have hs0 := hbk.size
    have HZ : Hid ((ps.drop k).length = z) := show _ = _ by rw [List.length_drop, HN.out]; omega
    have HL2 : Hid (∀ s ∈ ps.drop k, s.length = 512) := fun s hs => HL.out s (List.mem_of_mem_drop hs)
    by_cases hz : 0 < z
    · obtain ⟨b, off, e, _⟩ := HP.out (by rw [HZ.out]; exact hz)
      subst e
      obtain ⟨f', rfl⟩ : ∃ f', f = f' + 1 := ⟨f - 1, by omega⟩
      have HF : Hid (Calls Try.prog 99 #[.slice (some ⟨b, off, none⟩) z c', .int .u32 (g : Int), .int .i64 (j : Int)] wr fun e w' => Wl.FirstR wr (Wl.firstRec (ps.drop k) g j) e w') := by
        have := firstRecord_any wr b off c' (ps.drop k) g j _ (HP.out.kept (w' := wr) (fun q hq => hbk.block q hq.2)) (by rw [HZ.out]; omega) HL2.out (by rw [HZ.out]; exact hz) (by rw [HZ.out]; exact hzc) hg (by omega)
        rw [HZ.out] at this
        exact this
      have hE := HE.out
      unfold Wl.recsOf at hE
      cases hfr : Wl.firstRec (ps.drop k) g j with
      | none =>
        rw [hfr] at HF hE
        simp only [List.append_nil] at hE
        have HE2 := Lib.hid hE
        clear hE hfr HE
        go_wp2_with (go_at_call 99; refine HF.out.mono ?_; rintro e w1 ⟨rfl, hb1⟩)
        go_ret
        have e1 : j = (Wl.recs ps g).length := by rw [← HE2.out]; exact HJ.out
        subst e1
        refine ⟨A1, c1, rfl, ?_, hbk.trans (hb1.mono hs0)⟩
        have := HR.out.below hb1
        rw [HE2.out] at this
        exact this
      | some r =>
        rw [hfr] at HF hE
        simp only at hE
        obtain ⟨_, hr8, hnd, _⟩ := Wl.firstRec_some HL2.out hfr
        rw [HZ.out] at hnd
        have hnp := Wl.need_pos r.length
        have HE2 : Hid ((rs ++ [r]) ++ Wl.recsOf f' (ps.drop (k + Wl.need r.length)) g (j + 1) = Wl.recs ps g) := show _ = _ by rw [← hE, List.append_assoc, List.drop_drop]; rfl
        have HJ2 : Hid (j + 1 = (rs ++ [r]).length) := show _ = _ by rw [List.length_append, ← HJ.out]; rfl
        have HP2 := Lib.hid (HP.out.drop (Wl.need r.length))
        rw [List.drop_drop] at HP2
        have HND : Hid (∀ w1, Calls Try.prog 11 #[.int .i64 (r.length : Int)] w1 fun e w' => e = .returned (.int .i64 (Wl.need r.length : Int)) ∧ w1 = w') := fun w1 => need_any r.length w1 (by omega)
        clear hE hfr HE
        generalize Wl.need r.length = M at *
        have HLen : Hid ((rs ++ [r]).length ≤ 1000000) := show _ ≤ _ by rw [← HJ2.out]; omega
        have HPE : Hid (∀ A4, z - M = 0 → Wl.Prts w (fun k => G k ∧ k < w.heap.size) A4 (ps.drop (k + M))) := fun A4 hz0 hpos => by
          rw [List.length_drop, HN.out] at hpos
          omega
        by_cases hcM : c' = M
        · have hzM : z = M := by omega
          subst hcM
          subst hzM
          go_wp2_with (first
            | (go_at_call 99; refine HF.out.mono ?_; rintro e w1 ⟨A2, c2, rfl, HO2, hb1⟩)
            | (at_builtin; refine Wl.wpList_append1 rfl (.tmp 21) (.tmp 23) rfl wr w.heap.size _ _ _ r HR.out rfl hb1 A2 r.length c2 w1.heap.size rfl rfl (Wl.Bts.mono HO2.out.bts (fun q hq => hq.1)) rfl HO2.out.nilcap HO2.out.lecap rfl (j + 1) HJ2.out HLen.out hs0 ?_; intro A3 c3 w3 HR3 hb3)
            | (go_at_call 11; refine (HND.out _).mono ?_; rintro e w4 ⟨rfl, rfl⟩))
          go_roundw
          case rel => exact ⟨k + z, f', rs ++ [r], _, _, A3, c3, 0, j + 1, rfl, rfl, by omega, by omega, by omega, by omega, HJ2, HE2, HPE.out _ (by omega), HR3, hbk.trans hb3⟩
          case measure => simp [Wl.lenOf]; omega
        · have hcM2 : M < c' := by omega
          go_wp2_with (first
            | (go_at_call 99; refine HF.out.mono ?_; rintro e w1 ⟨A2, c2, rfl, HO2, hb1⟩)
            | (at_builtin; refine Wl.wpList_append1 rfl (.tmp 21) (.tmp 23) rfl wr w.heap.size _ _ _ r HR.out rfl hb1 A2 r.length c2 w1.heap.size rfl rfl (Wl.Bts.mono HO2.out.bts (fun q hq => hq.1)) rfl HO2.out.nilcap HO2.out.lecap rfl (j + 1) HJ2.out HLen.out hs0 ?_; intro A3 c3 w3 HR3 hb3)
            | (go_at_call 11; refine (HND.out _).mono ?_; rintro e w4 ⟨rfl, rfl⟩))
          go_roundw
          case rel => exact ⟨k + M, f', rs ++ [r], _, _, A3, c3, z - M, j + 1, rfl, rfl, by omega, by omega, by omega, by omega, HJ2, HE2, HP2, HR3, hbk.trans hb3⟩
          case measure => simp [Wl.lenOf]; omega
    · obtain rfl : z = 0 := by omega
      have hE : Wl.recsOf f (ps.drop k) g j = [] := by
        have : ps.drop k = [] := List.eq_nil_of_length_eq_zero HZ.out
        rw [this]
        cases f <;> rfl
      have HE2 : Hid (rs = Wl.recs ps g) := show _ = _ by rw [← HE.out, hE, List.append_nil]
      clear hE
      go_wp2
      go_ret
      have e1 : j = (Wl.recs ps g).length := by rw [← HE2.out]; exact HJ.out
      subst e1
      refine ⟨A1, c1, rfl, ?_, hbk⟩
      have := HR.out
      rw [HE2.out] at this
      exact this
end Go.Proofs.Ytogkaoiiddhdbaa
