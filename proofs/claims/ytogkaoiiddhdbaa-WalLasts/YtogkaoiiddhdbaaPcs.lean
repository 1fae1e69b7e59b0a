/- Contract of pieces. -/
import Derived.Test.YtogkaoiiddhdbaaSeal
namespace Go.Proofs.Ytogkaoiiddhdbaa
open Go.RowKit

namespace Wl
/-- The call answered a new row of new bytes. -/
def NewR (w : World) (ps : List (List UInt8)) (e : Ending) (w' : World) : Prop := ∃ A' c', e = .returned (.slice A' ps.length c') ∧ Hid (Rws w' w.heap.size (.slice A' ps.length c') ps) ∧ Below w.heap.size w w'
theorem Rws.own {w : World} {base : Nat} {v : Value} {ps : List (List UInt8)} (h : Rws w base v ps) : ∀ k, v.ownBlock = some k → base ≤ k ∧ k < w.heap.size := by
  obtain ⟨xs, G, h1, _⟩ := h
  exact h1.lt
theorem Rws.nilcap {w : World} {base n c : Nat} {A : Option Addr} {ps : List (List UInt8)} (h : Rws w base (.slice A n c) ps) : A = none → c = 0 := by
  obtain ⟨xs, G, h1, _⟩ := h
  rintro rfl
  rcases h1.2 with ⟨h2, _⟩ | ⟨g, cap, cur, h2, _⟩
  · injection h2
  · injection h2 with h2; cases h2
theorem OwnV.nilcap {w : World} {base n c : Nat} {A : Option Addr} {l : List UInt8} (h : OwnV w base (.slice A n c) l) : A = none → c = 0 := by
  rintro rfl
  rcases h.2 with ⟨h2, _⟩ | ⟨g, cap, cur, h2, _⟩
  · injection h2
  · injection h2 with h2; cases h2
theorem OwnV.lecap {w : World} {base n c : Nat} {A : Option Addr} {l : List UInt8} (h : OwnV w base (.slice A n c) l) : l.length ≤ c := by
  rcases h.2 with ⟨h2, h3⟩ | ⟨g, cap, cur, h2, _, _, h4, _⟩
  · omega
  · injection h2 with _ _ h2; omega
/-- append(rows, x), x in new memory, behind the literal's making. -/
theorem wpList_append1 {w1 : World} {ops : Array Oper} {rest : List Oper} {o : Oper} {a : Act} {Q : Exit → Act → World → Prop} (hgd : o.guard = none) (s x : Operand)
    (ho : o.op = .call { callee := .builtin .append, args := #[s, x], argTypes := #[48, 48] })
    (W0 : World) (base : Nat) (v : Value) (ps L : List (List UInt8)) (l : List UInt8) (hown : Rws W0 base v ps) (hs : a.eval s = v) (hbW : Below W0.heap.size W0 w1) (A : Option Addr) (n c g : Nat) (hg : g = w1.heap.size) (hx : a.eval x = .slice (some ⟨g, 0, none⟩) 1 1)
    (hB : Dk.Bts w1 (fun k => W0.heap.size ≤ k) A l) (hn : n = l.length) (hc : A = none → c = 0) (hlc : l.length ≤ c)
    (hL : ps ++ [l] = L) (nL : Nat) (hnL : nL = L.length) (hlen : L.length ≤ 1000000) (hbase : base ≤ W0.heap.size)
    (h : ∀ A' cap' w', Hid (Rws w' base (.slice A' nL cap') L) → Below base W0 w' → wpList Try.prog ops Q rest (a.put o.dst (.slice A' nL cap')) w') : wpList Try.prog ops Q (o :: rest) a (w1.alloc (.cells #[.slice A n c] 40)) := by
  subst hn hg
  have hz : (w1.alloc (.cells #[.slice A l.length c] 40)).heap.size = w1.heap.size + 1 := by simp
  have hb1 := hbW.alloc hbW.size (.cells #[.slice A l.length c] 40)
  have hs0 := hbW.size
  have ho0 := hown.own
  refine wpList_appendS hgd s x ho base v ps [l] L hs (hown.below hb1) (some ⟨w1.heap.size, 0, none⟩) 1 hx (by simp) ?_ hL nL hnL hlen (by rw [hz]; omega) fun A' cap' w' H hb => h A' cap' w' H ((hb1.mono hbase).trans hb)
  intro _
  refine ⟨w1.heap.size, 0, rfl, ⟨by omega, by omega, fun e => by have := (ho0 _ e).2; omega⟩, fun j hj => ?_⟩
  obtain rfl : j = 0 := by simpa using hj
  refine ⟨A, c, cell_of_row _ _ 0 _ _ _ (heap_alloc_new w1 _), ?_, hc, hlc⟩
  refine Bts.mono (hB.lt.kept (w' := w1.alloc (.cells #[.slice A l.length c] 40)) (fun k hk => Below.heap_alloc _ _ _ hk.2)) (fun k hk => ?_)
  exact ⟨Nat.le_trans hbase hk.1, by have := hk.2; omega, fun e => by have := (ho0 _ e).2; have := hk.1; omega⟩
theorem btsCut {w : World} {G : Nat → Prop} {A : Option Addr} {l : List UInt8} (h : Dk.Bts w G A l) (a n : Nat) : Dk.Bts w G (A.map fun x => x.add a) ((l.drop a).take n) := fun hl => by
  have hl' := hl
  rw [List.length_take, List.length_drop] at hl'
  obtain ⟨b, off, rfl, _⟩ := id h (by omega)
  have := btsSub h a n hl
  simpa [Dk.add_plain] using this
theorem take_pieces (g num : Nat) (r : List UInt8) (j : Nat) (h : j < need r.length) : (pieces g num r).take j ++ [piece g num j r] = (pieces g num r).take (j + 1) := by
  rw [List.take_succ_eq_append_getElem (by rw [length_pieces]; exact h), get_pieces g num r j h]
end Wl

set_option maxHeartbeats 400000 in
theorem pieces_pos (w : World) (g num : Nat) (A : Option Addr) (r : List UInt8) (c : Nat) (G : Nat → Prop) (hb : Dk.Bts w G A r) (hc0 : r.length ≤ c) (hc1 : 0 < c) (hg : g < 4294967296) (hnum : num ≤ 9223372036854775807) (hr : r.length ≤ 8192) :
    Calls Try.prog 51 #[.int .u32 (g : Int), .int .i64 (num : Int), .slice A r.length c] w fun e w' => Wl.NewR w (Wl.pieces g num r) e w' := by
  have HB := Lib.hid hb.lt
  clear hb
  have hnd : Wl.need r.length ≤ 17 := by unfold Wl.need; omega
  have hlp := Wl.length_pieces g num r
  have HP := Lib.hid hlp
  generalize hN : Wl.need r.length = N at hnd
  have HN := Lib.hid hN
  clear hN hlp
  go_enter Try.func51, Try.ntmps51
  go_wp2_with (go_at_call 11; refine (need_any r.length _ (by omega)).mono ?_; rw [HN.out]; rintro e w1 ⟨rfl, rfl⟩)
  go_loopw [7, 16] (fun v i wr => ∃ j : Nat, j ≤ N ∧ i = .int .i64 j ∧ (∃ A' c', v = .slice A' j c') ∧ Hid (Wl.Rws wr w.heap.size v ((Wl.pieces g num r).take j)) ∧ Below w.heap.size w wr) (fun _ i _ => N - (intOf i).toNat)
  case atStart => exact ⟨0, by omega, rfl, ⟨none, 0, rfl⟩, Wl.Rws.nil _ _, Below.refl _ _⟩
  case round =>
    obtain ⟨j, hj, rfl, ⟨A', c', rfl⟩, HR, hbj⟩ := hrel
    have hs0 := hbj.size
    by_cases hlt : j < N
    · have hfrom : j * 491 < r.length ∨ j = 0 := by have := HN.out; unfold Wl.need at this; omega
      have hfrom2 : j * 491 ≤ r.length := by omega
      have hz : j * 491 < c := by omega
      have hmin : min (((j : Int) + 1) * 491) (r.length : Int) = ((min ((j + 1) * 491) r.length : Nat) : Int) := by omega
      have hle2 : j * 491 ≤ min ((j + 1) * 491) r.length := by omega
      have hlb : (Wl.body r j).length = min ((j + 1) * 491) r.length - j * 491 := by simp [Wl.body]; omega
      have hlb2 := Wl.length_body r j
      have hL := Lib.hid (Wl.take_pieces g num r j (by rw [HN.out]; exact hlt))
      have hlen1 : Hid (((Wl.pieces g num r).take (j + 1)).length = j + 1) := show _ = _ by rw [List.length_take, HP.out, HN.out]; omega
      generalize hE : min ((j + 1) * 491) r.length = E at hmin hle2 hlb
      have hE2 : E ≤ r.length := by omega
      have HE := Lib.hid hE
      clear hE hfrom
      have HBj : Hid (Dk.Bts wr (fun k => G k ∧ k < w.heap.size) A r) := HB.out.kept (fun k hk => hbj.block k hk.2)
      have HBS : Hid (∀ w6, Below wr.heap.size wr w6 → Dk.Bts w6 (fun k => G k ∧ k < w.heap.size) (A.map (fun x => x.add (j * 491))) (Wl.body r j)) := fun w6 hb6 =>
        Wl.btsCut (HBj.out.kept (w' := w6) (fun k hk => hb6.block k (by omega))) (j * 491) 491
      go_wp2_with (fail)
      go_at_call 78
      refine (put_lit wr 2 2 g 4 _ 4 (by decide) (by omega) (by omega) (by decide) (by omega)).mono ?_
      rintro e w1 ⟨rfl, HR1, hb1⟩
      go_wp2_with (fail)
      go_at_call 78
      refine (put_at w1 _ ([2] ++ Wd.putL g 4) _ num 4 5 _ 4 _ HR1.out.bts (by simp [Wd.length_putL]) (by omega) (by omega) (by decide) (by omega) (by simp [Wd.length_putL])).mono ?_
      rintro e w2 ⟨rfl, HR2, hb2⟩
      go_wp2_with (fail)
      go_at_call 78
      refine (put_at w2 _ ([2] ++ Wd.putL g 4 ++ Wd.putL num 4) _ j 2 9 _ 2 _ HR2.out.bts (by simp [Wd.length_putL]) (by omega) (by omega) (by decide) (by omega) (by simp [Wd.length_putL])).mono ?_
      rintro e w3 ⟨rfl, HR3, hb3⟩
      go_wp2_with (fail)
      go_at_call 78
      refine (put_at w3 _ ([2] ++ Wd.putL g 4 ++ Wd.putL num 4 ++ Wd.putL j 2) _ N 2 11 _ 2 _ HR3.out.bts (by simp [Wd.length_putL]) (by omega) (by omega) (by decide) (by omega) (by simp [Wd.length_putL])).mono ?_
      rintro e w4 ⟨rfl, HR4, hb4⟩
      go_wp2_with (fail)
      go_at_call 78
      refine (put_at w4 _ ([2] ++ Wd.putL g 4 ++ Wd.putL num 4 ++ Wd.putL j 2 ++ Wd.putL N 2) _ r.length 4 13 _ 4 _ HR4.out.bts (by simp [Wd.length_putL]) (by omega) (by omega) (by decide) (by omega) (by simp [Wd.length_putL])).mono ?_
      rintro e w5 ⟨rfl, HR5, hb5⟩
      go_wp2_with (fail)
      have hb06 : Below wr.heap.size wr w5 := by
        have h1 := hb1.size; have h2 := hb2.size; have h3 := hb3.size; have h4 := hb4.size
        exact (((hb1.trans (hb2.mono h1)).trans (hb3.mono (by omega))).trans (hb4.mono (by omega))).trans (hb5.mono (by omega))
      go_at_call 79
      refine (seal_at w5 _ _ ([2] ++ Wd.putL g 4 ++ Wd.putL num 4 ++ Wd.putL j 2 ++ Wd.putL N 2 ++ Wd.putL r.length 4) (Wl.body r j) 17 (E - j * 491) _ _ _ (fun k => G k ∧ k < w.heap.size) HR5.out.bts (HBS.out w5 hb06) (by simp [Wd.length_putL]) hlb.symm (by simp [Wd.length_putL]; omega) (by simp [Wd.length_putL])).mono ?_
      rintro e w6 ⟨k, rfl, hk, HR6, hb6⟩
      have hs5 := hb06.size
      have hb07 : Below wr.heap.size wr w6 := hb06.trans (hb6.mono hs5)
      have HR7 : Hid (Dk.Row w6 k 5 (Wl.piece g num j r)) := by
        unfold Wl.piece Wl.front
        rw [HN.out]
        exact HR6
      clear HR1 HR2 HR3 HR4 HR5 HR6 hb1 hb2 hb3 hb4 hb5 hb6
      go_wp2_with (at_builtin; refine Wl.wpList_append1 rfl (.tmp 46) (.tmp 54) rfl wr w.heap.size _ _ _ (Wl.piece g num j r) HR.out rfl hb07 (some ⟨k, 0, none⟩) 512 512 w6.heap.size rfl rfl (Wl.Bts.mono HR7.out.bts (fun q hq => by omega)) (Wl.length_piece _ _ _ _).symm (by simp) (by rw [Wl.length_piece]; exact Nat.le_refl _) hL.out (j + 1) hlen1.out.symm (by rw [hlen1.out]; omega) hs0 ?_; intro A2 c2 w7 HR8 hb8)
      go_roundw
      case rel => exact ⟨j + 1, by omega, by go_num, ⟨A2, c2, rfl⟩, HR8, hbj.trans hb8⟩
      case measure => simp [intOf]; omega
    · have HE : Hid (j = N) := show _ = _ by omega
      go_wp2
      go_ret
      obtain rfl := HE.out
      refine ⟨A', c', ?_, ?_, hbj⟩
      · rw [HP.out, HN.out]
        rfl
      · rw [HP.out, HN.out]
        have := HR.out
        rw [List.take_of_length_le (by rw [HP.out, HN.out]; exact Nat.le_refl _)] at this
        exact this
set_option maxHeartbeats 400000 in
theorem pieces_nil (w : World) (g num : Nat) (A : Option Addr) (hg : g < 4294967296) (hnum : num ≤ 9223372036854775807) :
    Calls Try.prog 51 #[.int .u32 (g : Int), .int .i64 (num : Int), .slice A 0 0] w fun e w' => Wl.NewR w (Wl.pieces g num []) e w' := by
  go_enter Try.func51, Try.ntmps51
  go_wp2_with (go_at_call 11; refine (need_any 0 _ (by omega)).mono ?_; rw [show Wl.need 0 = 1 from rfl]; rintro e w1 ⟨rfl, rfl⟩)
  go_loopw [7, 16] (fun v i wr => ∃ j : Nat, j ≤ 1 ∧ i = .int .i64 j ∧ (∃ A' c', v = .slice A' j c') ∧ Hid (Wl.Rws wr w.heap.size v ((Wl.pieces g num []).take j)) ∧ Below w.heap.size w wr) (fun _ i _ => 1 - (intOf i).toNat)
  case atStart => exact ⟨0, by omega, rfl, ⟨none, 0, rfl⟩, Wl.Rws.nil _ _, Below.refl _ _⟩
  case round =>
    obtain ⟨j, hj, rfl, ⟨A', c', rfl⟩, HR, hbj⟩ := hrel
    have hs0 := hbj.size
    rcases (show j = 0 ∨ j = 1 by omega) with rfl | rfl
    · have hL : Hid ([] ++ [Wl.piece g num 0 []] = (Wl.pieces g num []).take 1) := show _ = _ from rfl
      have hlen1 : Hid (((Wl.pieces g num []).take (0 + 1)).length = 0 + 1) := show _ = _ from rfl
      have G : Nat → Prop := fun _ => False
      go_wp2_with (fail)
      go_at_call 78
      refine (put_lit wr 2 2 g 4 _ 4 (by decide) (by omega) (by omega) (by decide) (by omega)).mono ?_
      rintro e w1 ⟨rfl, HR1, hb1⟩
      go_wp2_with (fail)
      go_at_call 78
      refine (put_at w1 _ ([2] ++ Wd.putL g 4) _ num 4 5 _ 4 _ HR1.out.bts (by simp [Wd.length_putL]) (by omega) (by omega) (by decide) (by omega) (by simp [Wd.length_putL])).mono ?_
      rintro e w2 ⟨rfl, HR2, hb2⟩
      go_wp2_with (fail)
      go_at_call 78
      refine (put_at w2 _ ([2] ++ Wd.putL g 4 ++ Wd.putL num 4) _ 0 2 9 _ 2 _ HR2.out.bts (by simp [Wd.length_putL]) (by omega) (by omega) (by decide) (by omega) (by simp [Wd.length_putL])).mono ?_
      rintro e w3 ⟨rfl, HR3, hb3⟩
      go_wp2_with (fail)
      go_at_call 78
      refine (put_at w3 _ ([2] ++ Wd.putL g 4 ++ Wd.putL num 4 ++ Wd.putL 0 2) _ 1 2 11 _ 2 _ HR3.out.bts (by simp [Wd.length_putL]) (by omega) (by omega) (by decide) (by omega) (by simp [Wd.length_putL])).mono ?_
      rintro e w4 ⟨rfl, HR4, hb4⟩
      go_wp2_with (fail)
      go_at_call 78
      refine (put_at w4 _ ([2] ++ Wd.putL g 4 ++ Wd.putL num 4 ++ Wd.putL 0 2 ++ Wd.putL 1 2) _ 0 4 13 _ 4 _ HR4.out.bts (by simp [Wd.length_putL]) (by omega) (by omega) (by decide) (by omega) (by simp [Wd.length_putL])).mono ?_
      rintro e w5 ⟨rfl, HR5, hb5⟩
      go_wp2_with (fail)
      have hb06 : Below wr.heap.size wr w5 := by
        have h1 := hb1.size; have h2 := hb2.size; have h3 := hb3.size; have h4 := hb4.size
        exact (((hb1.trans (hb2.mono h1)).trans (hb3.mono (by omega))).trans (hb4.mono (by omega))).trans (hb5.mono (by omega))
      go_at_call 79
      refine (seal_at w5 _ _ ([2] ++ Wd.putL g 4 ++ Wd.putL num 4 ++ Wd.putL 0 2 ++ Wd.putL 1 2 ++ Wd.putL 0 4) [] 17 0 _ _ _ (fun k => G k ∧ k < w.heap.size) HR5.out.bts (fun h => absurd h (by decide)) (by simp [Wd.length_putL]) rfl (by simp [Wd.length_putL]) (by simp [Wd.length_putL])).mono ?_
      rintro e w6 ⟨k, rfl, hk, HR6, hb6⟩
      have hs5 := hb06.size
      have hb07 : Below wr.heap.size wr w6 := hb06.trans (hb6.mono hs5)
      have HR7 : Hid (Dk.Row w6 k 5 (Wl.piece g num 0 [])) := by
        rw [List.append_nil] at HR6
        exact HR6
      clear HR1 HR2 HR3 HR4 HR5 HR6 hb1 hb2 hb3 hb4 hb5 hb6
      go_wp2_with (at_builtin; refine Wl.wpList_append1 rfl (.tmp 46) (.tmp 54) rfl wr w.heap.size _ _ _ (Wl.piece g num 0 []) HR.out rfl hb07 (some ⟨k, 0, none⟩) 512 512 w6.heap.size rfl rfl (Wl.Bts.mono HR7.out.bts (fun q hq => by omega)) (Wl.length_piece _ _ _ _).symm (by simp) (by rw [Wl.length_piece]; exact Nat.le_refl _) hL.out (0 + 1) hlen1.out.symm (by rw [hlen1.out]; omega) hs0 ?_; intro A2 c2 w7 HR8 hb8)
      go_roundw
      case rel => exact ⟨1, by omega, by go_num, ⟨A2, c2, rfl⟩, HR8, hbj.trans hb8⟩
      case measure => simp [intOf]
    · go_wp2
      go_ret
      exact ⟨A', c', rfl, HR, hbj⟩
theorem pieces_any (w : World) (g num : Nat) (A : Option Addr) (r : List UInt8) (c : Nat) (G : Nat → Prop) (hb : Dk.Bts w G A r) (hc0 : r.length ≤ c) (hg : g < 4294967296) (hnum : num ≤ 9223372036854775807) (hr : r.length ≤ 8192) :
    Calls Try.prog 51 #[.int .u32 (g : Int), .int .i64 (num : Int), .slice A r.length c] w fun e w' => Wl.NewR w (Wl.pieces g num r) e w' := by
  rcases Nat.eq_zero_or_pos c with h | h
  · subst h
    obtain rfl : r = [] := List.eq_nil_of_length_eq_zero (by omega)
    exact pieces_nil w g num A hg hnum
  · exact pieces_pos w g num A r c G hb hc0 h hg hnum hr
end Go.Proofs.Ytogkaoiiddhdbaa
