/- Contract of Of. -/
import Derived.Test.YtonfkonjkgalhaaDoorPlBits
namespace Go.Proofs.YtonfkonjkgalhaaDoor
open Go.RowKit Go.WideMaps
set_option linter.unusedVariables false

namespace Pl
/-- Is number n one of a seat? -/
def okN (p : P) (n : Nat) : Bool := decide (n < (all p).length) && hasS p (gR (all p) n, gC (all p) n)
/-- The places of the bits ahead of k. -/
def ofL (p : P) (ws : List Nat) (k : Nat) : List S := ((List.range k).filter (on ws)).map fun n => (gR (all p) n, gC (all p) n)
theorem ofL_succ (p : P) (ws : List Nat) (k : Nat) : ofL p ws (k + 1) = ofL p ws k ++ (if on ws k then [(gR (all p) k, gC (all p) k)] else []) := by
  unfold ofL
  rw [List.range_succ, List.filter_append, List.map_append]
  cases h : on ws k <;> simp [h]
theorem ofL_len (p : P) (ws : List Nat) (k : Nat) : (ofL p ws k).length ≤ k := by
  unfold ofL
  rw [List.length_map]
  exact Nat.le_trans (List.length_filter_le _ _) (by simp)
/-- What Of answers. -/
def OfR (p : P) (ws : List Nat) (w : World) (e : Ending) (w' : World) : Prop :=
  (ws.length ≠ ((all p).length + 63) / 64 ∧ e = .returned (.tuple #[.slice none 0 0, .int .i64 2]) ∧ Below w.heap.size w w') ∨
  (ws.length = ((all p).length + 63) / 64 ∧ (∃ n, n < 64 * ws.length ∧ on ws n = true ∧ okN p n = false) ∧ e = .returned (.tuple #[.slice none 0 0, .int .i64 15]) ∧ Below w.heap.size w w') ∨
  (ws.length = ((all p).length + 63) / 64 ∧ (∀ n, n < 64 * ws.length → on ws n = true → okN p n = true) ∧ ∃ A c, e = .returned (.tuple #[.slice A (ofL p ws (64 * ws.length)).length c, .int .i64 0]) ∧ OwnS w' w.heap.size (.slice A (ofL p ws (64 * ws.length)).length c) (ofL p ws (64 * ws.length)) ∧ Below w.heap.size w w')
end Pl
set_option maxHeartbeats 2000000 in
set_option maxRecDepth 20000 in
theorem of_any (p : Pl.P) (ws : List Nat) (A : Option Addr) (cap B base g : Nat) (w : World) (ho : Pl.rowsOk p = true) (hl : Pl.lettersOk p.lt = true) (hm : Pl.MapAt w base g p (Pl.pls p)) (h : Pl.Nums w B A ws) (hB : B ≤ w.heap.size) (h64 : ∀ j, Pl.gN ws j < 18446744073709551616) (hwl : ws.length ≤ 9223372036854775807) :
    Calls Tryd.prog 33 #[.pointer (some ⟨g, 0, none⟩), .slice A ws.length cap] w (Pl.OfR p ws w) := by
  have hlen := Pl.all_len hl ho
  have hln := Pl.pls_len p
  have HWd := Lib.hid (words_any p base g w hm (by rw [Pl.pls_len]; omega))
  rw [hln] at HWd
  have HF := Lib.hid (fun s (W : World) (hb : Below w.heap.size w W) (hs : Pl.WS s) => has_any p s base g W hl (hm.below hb) hs)
  obtain ⟨A0, cap0, m, H1, H2, H3, h4⟩ := hm.at_
  rw [hln] at H1 H2
  have HOR := Lib.hid H2
  have H20 : Hid (List.map (Pl.seatOf p) (Pl.pls p) = Pl.all p) := show _ = _ by rfl
  rw [H20.out] at HOR
  have HG := Lib.hid H1
  have HML := H1.lt
  have HWS : Hid (∀ k, k < (Pl.all p).length → Pl.WS (Pl.gR (Pl.all p) k, Pl.gC (Pl.all p) k)) := fun k hk => by rw [← Pl.gS _ _ hk]; exact Pl.all_WS ho (List.getElem_mem hk)
  have HOK : Hid (∀ n, Pl.okN p n = (decide (n < (Pl.all p).length) && Pl.hasS p (Pl.gR (Pl.all p) n, Pl.gC (Pl.all p) n))) := fun _ => rfl
  have HSU := Lib.hid (fun k => Pl.ofL_succ p ws k)
  have HLE := Lib.hid (fun k => Pl.ofL_len p ws k)
  by_cases hW : ws.length = ((Pl.all p).length + 63) / 64
  · have HR : Hid (∀ e w', Below w.heap.size w w' → (((∃ n, n < 64 * ws.length ∧ Pl.on ws n = true ∧ Pl.okN p n = false) ∧ e = .returned (.tuple #[.slice none 0 0, .int .i64 15])) ∨ ((∀ n, n < 64 * ws.length → Pl.on ws n = true → Pl.okN p n = true) ∧ ∃ A c, e = .returned (.tuple #[.slice A (Pl.ofL p ws (64 * ws.length)).length c, .int .i64 0]) ∧ Pl.OwnS w' w.heap.size (.slice A (Pl.ofL p ws (64 * ws.length)).length c) (Pl.ofL p ws (64 * ws.length)))) → Pl.OfR p ws w e w') := fun e w' hb h => by
      rcases h with ⟨h1, h2⟩ | ⟨h1, A, c, h2, h3⟩
      · exact .inr (.inl ⟨hW, h1, h2, hb⟩)
      · exact .inr (.inr ⟨hW, h1, A, c, h2, h3, hb⟩)
    have HIS := Lib.hid (fun (W : World) (n : Nat) (hn : n / 64 < ws.length) (hb : Below w.heap.size w W) => isSet_any A ws cap w.heap.size n n W rfl (fun hp => by obtain ⟨b, off, e, h2, h3⟩ := h hp; exact ⟨b, off, e, by omega, fun j hj => (hb.cell (p := ⟨b, off + j, none⟩) (by show b < _; omega)).trans (h3 j hj)⟩) hn (by omega) h64)
    rw [← hW] at HWd
    have hwb : ws.length ≤ 1000 := by omega
    clear H1 H2 H3 h4 hm ho hl H20 h hln hW
    generalize Pl.ofL p ws = oL at *
    generalize Pl.okN p = oN at *
    generalize Pl.all p = al at *
    generalize Pl.on ws = on at *
    generalize ws.length = W at *
    go_enter Tryd.func33, Tryd.ntmps33
    go_wp2_with (first | (go_at_call 45; refine HWd.out.mono ?_; rintro e w' ⟨rfl, rfl⟩))
    have cg : w.cell? ⟨g, 0, none⟩ = some (.slice A0 al.length cap0) := (HG.out.cell 0).trans rfl
    have hgl := HG.out.lt
    go_loopw [6, 16] (fun out i wr => ∃ (k : Nat) (l : List Pl.S) (C : Option Addr) (c : Nat), k ≤ 64 * W ∧ i = .int .i64 k ∧ out = .slice C l.length c ∧ l.length ≤ k ∧ Hid (Pl.OwnS wr w.heap.size (.slice C l.length c) l) ∧ Hid (oL k = l) ∧ Hid (∀ n, n < k → on n = true → oN n = true) ∧ Hid (Below w.heap.size w wr)) (fun _ i _ => 64 * W - (intOf i).toNat)
    case atStart => exact ⟨0, [], none, 0, by omega, rfl, rfl, by simp, Pl.OwnS.nil _ _, show _ = _ by have := HLE.out 0; simpa using this, fun n hn => absurd hn (by omega), Below.refl _ _⟩
    case round =>
      obtain ⟨k, l, C, c, hk, rfl, rfl, hlk, HO, HL, HOKK, HB⟩ := hrel
      have hzr := HB.out.size
      by_cases hlt : k < 64 * W
      · have hltI : (k : Int) < (W : Int) * 64 := by omega
        have HISk := Lib.hid (HIS.out wr k (by omega) HB.out)
        have HT := Lib.hid (HSU.out k)
        have hk1 : k < 64000 := by omega
        cases hon : on k with
        | false =>
          rw [hon] at HISk HT
          have HT2 : Hid (oL (k + 1) = l) := show _ = _ by rw [HT.out, HL.out]; simp
          have HOK2 : Hid (∀ n, n < k + 1 → on n = true → oN n = true) := fun n hn ht => by
            rcases Nat.lt_or_ge n k with h | h
            · exact HOKK.out n h ht
            · rw [show n = k by omega, hon] at ht; cases ht
          clear hon
          go_wp2_with (first | (go_at_call 46; refine HISk.out.mono ?_; rintro e w' ⟨rfl, rfl⟩))
          go_roundw
          case rel => exact ⟨k + 1, l, C, c, by omega, by go_num, rfl, by omega, HO, HT2, HOK2, HB⟩
          case measure => simp [intOf]; omega
        | true =>
          rw [hon] at HISk HT
          have HON : Hid (on k = true) := hon
          clear hon
          have cgr : wr.cell? ⟨g, 0, none⟩ = some (.slice A0 al.length cap0) := (HB.out.cell (p := ⟨g, 0, none⟩) hgl).trans cg
          by_cases hN : k < al.length
          · obtain ⟨b, rfl, hb, hbb, c0, c1⟩ := HOR.out.at k hN
            have q0 : wr.cell? ⟨b, k * 2, none⟩ = some (.int .i64 (Pl.gR al k)) := (HB.out.cell (p := ⟨b, k * 2, none⟩) hb).trans c0
            have q1 : wr.cell? ⟨b, k * 2 + 1, none⟩ = some (.int .u8 (Pl.gC al k)) := (HB.out.cell (p := ⟨b, k * 2 + 1, none⟩) hb).trans c1
            have HFk := Lib.hid (HF.out (Pl.gR al k, Pl.gC al k) wr HB.out (HWS.out k hN))
            have HOk := Lib.hid (HOK.out k)
            generalize Pl.gR al k = sr at *
            generalize Pl.gC al k = sc at *
            unfold Pl.sv at HFk
            simp only at HFk
            have hd : decide (al.length ≤ k) = false := by simp; omega
            have hd2 : decide ((al.length : Int) ≤ (k : Int)) = false := by simp; omega
            cases hh : Pl.hasS p (sr, sc) with
            | false =>
              rw [hh] at HFk
              have HBad : Hid (oN k = false) := show _ = _ by rw [HOk.out, hh]; simp
              clear hh
              go_wp2_with (first
                | (go_at_call 46; refine HISk.out.mono ?_; rintro e w' ⟨rfl, rfl⟩)
                | (go_at_call 23; refine HFk.out.mono ?_; rintro e w4 ⟨rfl, hb4⟩))
              go_ret2
              exact HR.out _ _ (HB.out.trans (hb4.mono hzr)) (.inl ⟨⟨k, hlt, HON.out, HBad.out⟩, rfl⟩)
            | true =>
              rw [hh] at HFk
              have HGd : Hid (oN k = true) := show _ = _ by rw [HOk.out, hh, decide_eq_true hN]; rfl
              have HOK2 : Hid (∀ n, n < k + 1 → on n = true → oN n = true) := fun n hn ht => by
                rcases Nat.lt_or_ge n k with h | h
                · exact HOKK.out n h ht
                · rw [show n = k by omega]; exact HGd.out
              have HT2 : Hid (oL (k + 1) = l ++ [(sr, sc)]) := show _ = _ by rw [HT.out, HL.out]; simp
              have hl6 : l.length < 100000 := by omega
              clear hh
              go_wp2_with (first
                | (go_at_call 46; refine HISk.out.mono ?_; rintro e w' ⟨rfl, rfl⟩)
                | (go_at_call 23; refine HFk.out.mono ?_; rintro e w4 ⟨rfl, hb4⟩; have b04 := HB.out.trans (hb4.mono hzr); have ba : Below w4.heap.size w4 (w4.alloc (.cells #[.int .i64 sr, .int .u8 sc] 23)) := (Below.refl _ _).alloc (Nat.le_refl _) _; have HOa := Lib.hid ((HO.out.below hb4).below ba); have hba := Nat.le_trans b04.size ba.size; have b05 := b04.trans (ba.mono b04.size); have HSc := Lib.hid (Pl.Sc.new (sr, sc) w4); have m0 := (hb4.cell (p := ⟨b, k * 2, none⟩) (by have := hzr; show b < _; omega)).trans q0; have m1 := (hb4.cell (p := ⟨b, k * 2 + 1, none⟩) (by have := hzr; show b < _; omega)).trans q1; have cg4 := (hb4.cell (p := ⟨g, 0, none⟩) (by have := hzr; show g < _; omega)).trans cgr)
                | (refine Rw.wpList_appendS rfl (.tmp 42) (.tmp 50) rfl w.heap.size (.slice C l.length c) l (sr, sc) HOa.out rfl w4.heap.size rfl HSc.out hl6 hba (l.length + 1) rfl ?_; intro A5 c5 w5 h51 h52 h53))
              go_roundw
              case rel => exact ⟨k + 1, l ++ [(sr, sc)], A5, c5, by omega, by go_num, by simp, by simp; omega, by simpa using h51, HT2, HOK2, b05.trans h52.out⟩
              case measure => simp [intOf]; omega
          · have HBad : Hid (oN k = false) := show _ = _ by rw [HOK.out, decide_eq_false hN]; rfl
            have hd : decide (al.length ≤ k) = true := by simp; omega
            have hd2 : decide ((al.length : Int) ≤ (k : Int)) = true := by simp; omega
            go_wp2_with (first
              | (go_at_call 46; refine HISk.out.mono ?_; rintro e w' ⟨rfl, rfl⟩))
            go_ret2
            exact HR.out _ _ HB.out (.inl ⟨⟨k, hlt, HON.out, HBad.out⟩, rfl⟩)
      · have hkn : k = 64 * W := by omega
        have HL2 : Hid (oL (64 * W) = l) := show _ = _ by rw [← hkn]; exact HL.out
        have HOK3 : Hid (∀ n, n < 64 * W → on n = true → oN n = true) := fun n hn => HOKK.out n (by omega)
        have hge : ¬ (k : Int) < (W : Int) * 64 := by omega
        clear hkn
        go_wp2
        go_ret2
        exact HR.out _ _ HB.out (.inr ⟨HOK3.out, C, c, by rw [HL2.out]; rfl, by rw [HL2.out]; exact HO.out⟩)
  · have HR : Hid (Pl.OfR p ws w (.returned (.tuple #[.slice none 0 0, .int .i64 2])) w) := .inl ⟨hW, rfl, Below.refl _ _⟩
    have hne : ((ws.length : Int) != ((((Pl.all p).length + 63) / 64 : Nat) : Int)) = true := by rw [bne_iff_ne]; omega
    have hne2 : ((ws.length : Int) == ((((Pl.all p).length + 63) / 64 : Nat) : Int)) = false := by rw [beq_eq_false_iff_ne]; omega
    clear H1 H2 H3 h4 hm ho hl H20 h hln hW
    generalize ((Pl.all p).length + 63) / 64 = W at *
    generalize ws.length = N at *
    go_enter Tryd.func33, Tryd.ntmps33
    go_wp2_with (first | (go_at_call 45; refine HWd.out.mono ?_; rintro e w' ⟨rfl, rfl⟩))
    go_ret2
    exact HR.out
end Go.Proofs.YtonfkonjkgalhaaDoor
