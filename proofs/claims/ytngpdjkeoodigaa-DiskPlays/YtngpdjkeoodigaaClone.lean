/- Contracts of maps.Clone, slices.Clone and Clone. -/
import Derived.Test.YtngpdjkeoodigaaLawB
import Derived.Shelf.SlMaps.Clone
namespace Go.Proofs.Ytngpdjkeoodigaa
open Go.RowKit

theorem clone37 (w : World) (b : Nat) (es : Array MapEntry) (clock : Nat) (hb : w.heap[b]? = some (.map es clock)) :
    Calls Try.prog 37 #[.map (some b)] w fun e w' => e = .returned (.map (some w.heap.size)) ∧ w' = w.alloc (.map es clock) := by
  have hq := fun w => run_eql_map_nil_sl (P := Try.prog) w 59 _ _ (some b) Dk.u59
  go_enter Try.func37, Try.ntmps37
  go_wp2
  rw [run_callFunc_extern Try.func43 (by kernel_rfl) (by kernel_rfl) (by kernel_rfl) (e := Extern.MapsClone.clone) (by kernel_rfl), run_maps_clone_sl w 59 hb]
  simp only [Result.andThen]
  rw [Oper.upon_value]
  go_wp2
  rw [run_typeAssert_map_sl _ 59 20 _ _ _ Dk.u59]
  simp only [Result.andThen]
  rw [Oper.upon_value]
  go_wp2
  go_ret
  exact ⟨rfl, rfl⟩
theorem clone39 (w : World) (b : Nat) (es : Array MapEntry) (clock : Nat) (hb : w.heap[b]? = some (.map es clock)) :
    Calls Try.prog 39 #[.map (some b)] w fun e w' => e = .returned (.map (some w.heap.size)) ∧ w' = w.alloc (.map es clock) := by
  have hq := fun w => run_eql_map_nil_sl (P := Try.prog) w 60 _ _ (some b) Dk.u60
  go_enter Try.func39, Try.ntmps39
  go_wp2
  rw [run_callFunc_extern Try.func43 (by kernel_rfl) (by kernel_rfl) (by kernel_rfl) (e := Extern.MapsClone.clone) (by kernel_rfl), run_maps_clone_sl w 60 hb]
  simp only [Result.andThen]
  rw [Oper.upon_value]
  go_wp2
  rw [run_typeAssert_map_sl _ 60 20 _ _ _ Dk.u60]
  simp only [Result.andThen]
  rw [Oper.upon_value]
  go_wp2
  go_ret
  exact ⟨rfl, rfl⟩
namespace Dk
theorem map_clone37 (w : World) (b : Nat) (f : Int → Option Value) (h : MapAt w b f) :
    Calls Try.prog 37 #[.map (some b)] w fun e w' => e = .returned (.map (some w.heap.size)) ∧ Hid (MapAt w' w.heap.size f) ∧ Below w.heap.size w w' ∧ w.heap.size < w'.heap.size := by
  obtain ⟨es, ck, hb, h1, h2⟩ := h
  refine (clone37 w b es ck hb).mono fun e w' ⟨he, hw⟩ => ?_
  subst hw
  exact ⟨he, ⟨es, ck, (MapKept.heap_alloc w _).1, h1, h2⟩, (Below.refl _ w).alloc (Nat.le_refl _) _, by simp⟩
theorem map_clone39 (w : World) (b : Nat) (f : Int → Option Value) (h : MapAt w b f) :
    Calls Try.prog 39 #[.map (some b)] w fun e w' => e = .returned (.map (some w.heap.size)) ∧ Hid (MapAt w' w.heap.size f) ∧ Below w.heap.size w w' ∧ w.heap.size < w'.heap.size := by
  obtain ⟨es, ck, hb, h1, h2⟩ := h
  refine (clone39 w b es ck hb).mono fun e w' ⟨he, hw⟩ => ?_
  subst hw
  exact ⟨he, ⟨es, ck, (MapKept.heap_alloc w _).1, h1, h2⟩, (Below.refl _ w).alloc (Nat.le_refl _) _, by simp⟩
/-- append of a row of writes to an empty one of its own. -/
theorem wpList_append77 {w : World} {ops : Array Oper} {rest : List Oper} {o : Oper} {a : Act} {Q : Exit → Act → World → Prop} (hgd : o.guard = none) (s x : Operand) (hop : o.op = .call { callee := .builtin .append, args := #[s, x], argTypes := #[61, 61] })
    (base : Nat) (v : Value) (hs : a.eval s = v) (hown : w.ownsRow base 77 513 v 0 []) (g n c : Nat) (l : List (Int × List UInt8)) (hx : a.eval x = .slice (some ⟨g, 0, none⟩) n c) (hn : n = l.length) (hok : ∀ y ∈ l, y.2.length = 512)
    (hrow : w.ownsRow 0 77 513 (.slice (some ⟨g, 0, none⟩) n c) n (flat l)) (hl : l.length < 100000) (hb : base ≤ w.heap.size)
    (hK : ∀ v' w', w'.ownsRow base 77 513 v' n (flat l) → Below base w w' → (∃ g cap, v' = .slice (some ⟨g, 0, none⟩) n cap) → wpList Try.prog ops Q rest (a.put o.dst v') w') (hsh : ∃ g cap, v = .slice (some ⟨g, 0, none⟩) 0 cap) : wpList Try.prog ops Q (o :: rest) a w := by
  subst hn
  obtain ⟨i0, hi0, hz0, hz1, hz2⟩ := info_parts i77b
  refine wpList_append_own _ hgd s x 61 hop base 77 i0 _ 513 520 u61 hi0 hz0 hz1 hz2 (by simp [Value.cells, length_wr, length_zeros]) (by omega) v 0 [] hs hown ⟨g, 0, none⟩ l.length c (flat l) hx (flat_length l hok) (hrow.cells rfl) (one_flat l) (by unfold maxLen; omega) (by omega) hb ?_
  intro v' w' h1 h2 h3
  rw [Nat.zero_add, List.nil_append] at h1
  refine hK v' w' h1 ((Below.refl base w).grown h2 hb (fun k hk => (hown.lt k hk).1)) ?_
  obtain ⟨g1, cap1, rfl⟩ := hsh
  rcases h1.2 with ⟨h4, _⟩ | ⟨g, cap, cur, h4, _⟩
  · exact absurd (h3.1 h4).1 (by simp)
  · exact ⟨g, cap, h4⟩
end Dk
namespace Dk
theorem eql_equalIn (d : Nat) (a : Option Addr) (n c : Nat) (w : World) : (Op.equalIn (d + 1) 61 (.slice a n c) (.slice none 0 0)).run Try.prog w = .ok a.isNone w := by
  cases a <;> simp [Op.equalIn, run_underlying u61]
theorem eql_nil (a : Option Addr) (n c : Nat) (w : World) : (binOp .eql 61 (.slice a n c) (.slice none 0 0)).run Try.prog w = .ok (.bool a.isNone) w := by
  simp only [binOp]
  simp [show Op.equal 61 (.slice a n c) (.slice none 0 0) = Op.equalIn (9999 + 1) 61 (.slice a n c) (.slice none 0 0) from rfl, eql_equalIn]
end Dk
theorem slices_clone_nil (w : World) : Calls Try.prog 38 #[.slice none 0 0] w fun e w' => e = .returned (.slice none 0 0) ∧ w = w' := by
  have hq := Dk.eql_nil
  go_enter Try.func38, Try.ntmps38
  go_wp2
  go_ret
  exact ⟨rfl, rfl⟩
theorem slices_clone (w : World) (g n c : Nat) (l : List (Int × List UInt8)) (hn : n = l.length) (hok : ∀ y ∈ l, y.2.length = 512) (hrow : w.ownsRow 0 77 513 (.slice (some ⟨g, 0, none⟩) n c) n (Dk.flat l)) (hl : l.length < 100000) :
    Calls Try.prog 38 #[.slice (some ⟨g, 0, none⟩) n c] w fun e w' => ∃ g' c', e = .returned (.slice (some ⟨g', 0, none⟩) n c') ∧ Hid (w'.ownsRow w.heap.size 77 513 (.slice (some ⟨g', 0, none⟩) n c') n (Dk.flat l)) ∧ Below w.heap.size w w' := by
  have HR := Lib.hid hrow
  have HO := Lib.hid hok
  have HN := Lib.hid hn
  clear hrow hok hn
  have hq := Dk.eql_nil
  go_enter Try.func38, Try.ntmps38
  go_wp2_with (refine Dk.wpList_append77 rfl _ _ rfl w.heap.size (.slice (some ⟨w.heap.size, 0, none⟩) 0 0) rfl (World.ownsRow_made w #[] 0 (Nat.le_refl _) (by unfold maxLen; omega) (by simp)) g n c l rfl HN.out HO.out (World.ownsRow.alloc HR.out _) hl (by simp) ?_ ⟨_, _, rfl⟩; intro v' w' hO hb hsh; obtain ⟨g', c', rfl⟩ := hsh; have HO' := Lib.hid hO; have hb' := ((Below.refl w.heap.size w).alloc (Nat.le_refl _) _).trans hb; clear hO hb)
  go_ret
  exact ⟨g', c', rfl, HO', hb'⟩

namespace Dk
theorem u63 : Try.prog.underlying 63 = some (((Try.prog.underlying 63).getD .bool)) := by kernel_rfl
theorem i63 : (Try.prog.info? 63).map (·.size) = some 7 := by kernel_rfl
def zero63 : List Value := [.int .i64 0, .map none, .slice none 0 0, .map none, .bool false, .bool false, .int .i64 0]
theorem z63 (w : World) : (zeroValue 63).run Try.prog w = .ok (.agg zero63.toArray) w := by kernel_rfl
def cells63 (s : S) (a c : Nat) (v : Value) : List Value := [.int .i64 s.n, .map (some a), v, .map (some c), .bool s.down, .bool s.fused, .int .i64 s.left]
theorem At.range {w : World} {p a c : Nat} {v : Value} {s : S} (h : At w p a c v s) : w.rangeAt p 0 (cells63 s a c v) := by
  intro j u hu
  rw [Nat.zero_add, h.cell j]
  simpa [cells63] using hu
theorem one_cells63 {w : World} {s : S} {a c : Nat} {v : Value} {n : Nat} {xs : List Value} (h : w.ownsRow 0 77 513 v n xs) : ∀ u ∈ cells63 s a c v, u.oneCell' = true := by
  intro u hu
  obtain ⟨A, cap, rfl⟩ := slice_of w v n xs h
  simp only [cells63, List.mem_cons, List.not_mem_nil, or_false] at hu
  rcases hu with rfl | rfl | rfl | rfl | rfl | rfl | rfl <;> rfl
theorem ownsRow_base {w : World} {base : Nat} {v : Value} {n : Nat} {xs : List Value} (h : w.ownsRow base 77 513 v n xs) : w.ownsRow 0 77 513 v n xs := by
  obtain ⟨h1, h2⟩ := h
  refine ⟨h1, ?_⟩
  rcases h2 with h2 | ⟨g, cap, cur, hv, hg, r⟩
  · exact .inl h2
  · exact .inr ⟨g, cap, cur, hv, Nat.zero_le _, r⟩
/-- The clone's struct, put together. -/
theorem born_clone {w w1 w2 w3 w4 : World} {s : S} {a c : Nat} {v v' : Value} (okw : ∀ x ∈ s.wait, x.2.length = 512) (oks : ∀ k l, s.safe k = some l → l.length = 512)
    (hg1 : w1.heap[w.heap.size]? = some (.cells (cells63 s a c v).toArray 63 (0, 0))) (hs1 : w.heap.size < w1.heap.size)
    (m2 : MapAt w2 w1.heap.size (fun k => secV (s.safe k))) (hb2 : Below w1.heap.size w1 w2) (hs2 : w1.heap.size < w2.heap.size)
    (r3 : w3.ownsRow w2.heap.size 77 513 v' s.wait.length (flat s.wait)) (hb3 : Below w2.heap.size (w2.setCell ⟨w.heap.size, 1, none⟩ (.map (some w1.heap.size))) w3)
    (m4 : MapAt w4 w3.heap.size (fun k => ixV (lastIx s.wait k))) (hb4 : Below w3.heap.size (w3.setCell ⟨w.heap.size, 2, none⟩ v') w4) :
    Born w (w4.setCell ⟨w.heap.size, 3, none⟩ (.map (some w3.heap.size))) w.heap.size s := by
  have z2 : (w2.setCell ⟨w.heap.size, 1, none⟩ (.map (some w1.heap.size))).heap.size = w2.heap.size := by simp [World.setCell]
  have z3 : (w3.setCell ⟨w.heap.size, 2, none⟩ v').heap.size = w3.heap.size := by simp [World.setCell]
  have hs3 : w2.heap.size ≤ w3.heap.size := by have := hb3.size; omega
  have e2 : w2.heap[w.heap.size]? = some (.cells (cells63 s a c v).toArray 63 (0, 0)) := (hb2.block _ hs1).trans hg1
  have e3 := (hb3.block w.heap.size (by omega)).trans (set_row e2 1 (.map (some w1.heap.size)))
  have e4 := (hb4.block w.heap.size (by omega)).trans (set_row e3 2 v')
  have e5 := set_row e4 3 (.map (some w3.heap.size))
  have hv : ∀ k, v'.ownBlock = some k → w2.heap.size ≤ k ∧ k < w3.heap.size := r3.lt
  have s5 : ∀ (k : Nat) (u : Value) (j : Nat) (W : World), k ≠ w.heap.size → (W.setCell ⟨w.heap.size, j, none⟩ u).heap[k]? = W.heap[k]? := fun k u j W hk => Below.heap_setCell _ _ _ _ hk
  refine ⟨Own w.heap.size w1.heap.size w3.heap.size v', ⟨_, _, _, ⟨?_, ?_, ?_, ?_, by omega, by omega, by omega, ?_, ?_, ?_, okw, oks⟩, rfl⟩, ?_⟩
  · rw [e5]; rfl
  · refine m2.kept ?_
    rw [s5 _ _ _ _ (by omega), hb4.block _ (by omega), s5 _ _ _ _ (by omega), hb3.block _ (by omega), s5 _ _ _ _ (by omega)]
  · exact m4.kept (s5 _ _ _ _ (by omega))
  · refine ownsRow_kept (ownsRow_base r3) (fun g hg => ?_)
    have := hv g hg
    rw [s5 _ _ _ _ (by omega), hb4.block _ (by omega), s5 _ _ _ _ (by omega)]
  · intro h; have := hv _ h; omega
  · intro h; have := hv _ h; omega
  · intro h; have := hv _ h; omega
  · rintro k (h | h | h | h)
    · omega
    · omega
    · omega
    · have := hv k h; omega
end Dk
theorem Dk.slices_clone' {w W : World} {x : Addr} {y : Value} {g n c : Nat} {l : List (Int × List UInt8)} (hW : W = w.setCell x y) (hn : n = l.length) (hok : ∀ y ∈ l, y.2.length = 512) (hrow : W.ownsRow 0 77 513 (.slice (some ⟨g, 0, none⟩) n c) n (Dk.flat l)) (hl : l.length < 100000) :
    Calls Try.prog 38 #[.slice (some ⟨g, 0, none⟩) n c] W fun e w' => ∃ g' c', e = .returned (.slice (some ⟨g', 0, none⟩) n c') ∧ Hid (w'.ownsRow w.heap.size 77 513 (.slice (some ⟨g', 0, none⟩) n c') n (Dk.flat l)) ∧ Below w.heap.size W w' := by
  have := slices_clone W g n c l hn hok hrow hl
  rwa [show W.heap.size = w.heap.size by rw [hW]; simp [World.setCell]] at this
theorem Dk.map_clone39' {w W : World} {x : Addr} {y : Value} {b : Nat} {f : Int → Option Value} (hW : W = w.setCell x y) (h : Dk.MapAt W b f) :
    Calls Try.prog 39 #[.map (some b)] W fun e w' => e = .returned (.map (some w.heap.size)) ∧ Hid (Dk.MapAt w' w.heap.size f) ∧ Below w.heap.size W w' ∧ w.heap.size < w'.heap.size := by
  have := Dk.map_clone39 W b f h
  rwa [show W.heap.size = w.heap.size by rw [hW]; simp [World.setCell]] at this
theorem Dk.frozen_row {w : World} {g : Nat} {cs : Array Value} {t : TypeId} (h : w.heap[g]? = some (.cells cs t (0, 0))) (j : Nat) : w.frozen? ⟨g, j, none⟩ = false := by simp [World.frozen?, h]
set_option maxHeartbeats 1000000 in
theorem clone_core (w : World) (p a c : Nat) (v : Value) (s : Dk.S) (h : Dk.At w p a c v s) (hw : s.wait.length < 100000) (hnil : (v = .slice none 0 0 ∧ s.wait.length = 0) ∨ ∃ g cap, v = .slice (some ⟨g, 0, none⟩) s.wait.length cap) :
    Calls Try.prog 25 #[.pointer (some ⟨p, 0, none⟩)] w fun e w' => e = .returned (.pointer (some ⟨w.heap.size, 0, none⟩)) ∧ Hid (Dk.Born w w' w.heap.size s) ∧ Below w.heap.size w w' := by
  have HR := Lib.hid h.range
  have HO := Lib.hid (Dk.one_cells63 (s := s) (a := a) (c := c) h.row)
  have HK : Hid (∀ w', Below w.heap.size w w' → Dk.At w' p a c v s) := fun w' hb => h.kept (fun k hk => hb.block k (h.lt k hk))
  have HOK := Lib.hid (And.intro h.okw h.oks)
  clear h
  rcases hnil with ⟨rfl, h0⟩ | ⟨g, cap, rfl⟩
  · have HN : Hid (∀ w' : World, w'.ownsRow w'.heap.size 77 513 (.slice none 0 0) s.wait.length (Dk.flat s.wait)) := fun w' => by
      rw [h0, List.eq_nil_of_length_eq_zero h0]
      exact World.ownsRow_nil _ _ _ _
    clear h0
    go_enter Try.func25, Try.ntmps25
    go_wp2_with (first
      | (refine wpList_load_mid rfl 63 _ rfl p 0 rfl (Dk.cells63 s a c (.slice none 0 0)) _ HR.out Dk.u63 rfl Dk.i63 ?_)
      | (refine Dk.wpList_alloc rfl 63 rfl _ (Dk.z63 _) ?_; intro w0 hg0 hb0 hs0)
      | (refine Dk.wpList_store_whole rfl 63 _ _ rfl w.heap.size rfl (Dk.cells63 s a c (.slice none 0 0)) rfl _ _ hg0 Dk.i63 rfl HO.out ?_; intro w1 hg1 hf1; have hb1 : Below w.heap.size w w1 := hb0.trans (hf1.below hb0.size (fun k hk => by omega)); have hs1 : w.heap.size < w1.heap.size := Nat.lt_of_lt_of_le hs0 hf1.size; have HA1 := Lib.hid (HK.out w1 hb1); have c1 := HA1.out.c1)
      | (go_at_call 37; refine (Dk.map_clone37 w1 a _ HA1.out.safe).mono ?_; rintro e w2 ⟨rfl, HM2, hb2, hs2⟩; have G2 := Lib.hid ((hb2.block _ hs1).trans hg1); have k1 : w2.cell? ⟨w.heap.size, 1, none⟩ = some (.map (some a)) := cell_of_row w2 _ 1 _ _ _ G2.out; have f1 := Dk.frozen_row G2.out 1; have hb2' := (hb1.trans (hb2.mono hb1.size)).setCell (p := ⟨w.heap.size, 1, none⟩) (Nat.le_refl _) (.map (some w1.heap.size)); have HA2 := Lib.hid (HK.out _ hb2'); have c2 := HA2.out.c2; have E2 := Lib.hid (Dk.set_row G2.out 1 (.map (some w1.heap.size))))
      | (go_at_call 38; refine (slices_clone_nil _).mono ?_; rintro e w3 ⟨rfl, rfl⟩; have k2 := cell_of_row _ _ 2 _ _ _ E2.out; have f2 := Dk.frozen_row E2.out 2; have hb3' := hb2'.setCell (p := ⟨w.heap.size, 2, none⟩) (Nat.le_refl _) (.slice none 0 0); have HA3 := Lib.hid (HK.out _ hb3'); have c3 := HA3.out.c3; have E3 := Lib.hid (Dk.set_row E2.out 2 (.slice none 0 0)))
      | (go_at_call 39; refine (Dk.map_clone39' rfl HA3.out.late).mono ?_; rintro e w4 ⟨rfl, HM4, hb4, hs4⟩; have E4 := Lib.hid ((hb4.block w.heap.size (by simp [World.setCell]; omega)).trans E3.out); have k3 : w4.cell? ⟨w.heap.size, 3, none⟩ = some (.map (some c)) := cell_of_row _ _ 3 _ _ _ E4.out; have f3 := Dk.frozen_row E4.out 3))
    go_ret
    have z2 : (w2.setCell ⟨w.heap.size, 1, none⟩ (.map (some w1.heap.size))).heap.size = w2.heap.size := by simp [World.setCell]
    have hB := Dk.born_clone (w3 := w2.setCell ⟨w.heap.size, 1, none⟩ (.map (some w1.heap.size))) HOK.out.1 HOK.out.2 hg1 hs1 HM2.out hb2 hs2 (z2 ▸ HN.out _) (Below.refl _ _) HM4.out hb4
    rw [z2] at hB
    exact ⟨rfl, hB, (hb3'.trans (hb4.mono (by rw [z2]; omega))).setCell (Nat.le_refl _) _⟩
  · go_enter Try.func25, Try.ntmps25
    go_wp2_with (first
      | (refine wpList_load_mid rfl 63 _ rfl p 0 rfl (Dk.cells63 s a c (.slice (some ⟨g, 0, none⟩) s.wait.length cap)) _ HR.out Dk.u63 rfl Dk.i63 ?_)
      | (refine Dk.wpList_alloc rfl 63 rfl _ (Dk.z63 _) ?_; intro w0 hg0 hb0 hs0)
      | (refine Dk.wpList_store_whole rfl 63 _ _ rfl w.heap.size rfl (Dk.cells63 s a c (.slice (some ⟨g, 0, none⟩) s.wait.length cap)) rfl _ _ hg0 Dk.i63 rfl HO.out ?_; intro w1 hg1 hf1; have hb1 : Below w.heap.size w w1 := hb0.trans (hf1.below hb0.size (fun k hk => by omega)); have hs1 : w.heap.size < w1.heap.size := Nat.lt_of_lt_of_le hs0 hf1.size; have HA1 := Lib.hid (HK.out w1 hb1); have c1 := HA1.out.c1)
      | (go_at_call 37; refine (Dk.map_clone37 w1 a _ HA1.out.safe).mono ?_; rintro e w2 ⟨rfl, HM2, hb2, hs2⟩; have G2 := Lib.hid ((hb2.block _ hs1).trans hg1); have k1 : w2.cell? ⟨w.heap.size, 1, none⟩ = some (.map (some a)) := cell_of_row w2 _ 1 _ _ _ G2.out; have f1 := Dk.frozen_row G2.out 1; have hb2' := (hb1.trans (hb2.mono hb1.size)).setCell (p := ⟨w.heap.size, 1, none⟩) (Nat.le_refl _) (.map (some w1.heap.size)); have HA2 := Lib.hid (HK.out _ hb2'); have c2 := HA2.out.c2; have E2 := Lib.hid (Dk.set_row G2.out 1 (.map (some w1.heap.size))))
      | (go_at_call 38; refine (Dk.slices_clone' rfl rfl HOK.out.1 HA2.out.row hw).mono ?_; rintro e w3 ⟨g', c', rfl, HO3, hb3⟩; have E2' := Lib.hid ((hb3.block w.heap.size (by omega)).trans E2.out); have k2 : w3.cell? ⟨w.heap.size, 2, none⟩ = some (.slice (some ⟨g, 0, none⟩) s.wait.length cap) := cell_of_row _ _ 2 _ _ _ E2'.out; have f2 := Dk.frozen_row E2'.out 2; have hb3' := (hb2'.trans (hb3.mono (by omega))).setCell (p := ⟨w.heap.size, 2, none⟩) (Nat.le_refl _) (.slice (some ⟨g', 0, none⟩) s.wait.length c'); have HA3 := Lib.hid (HK.out _ hb3'); have c3 := HA3.out.c3; have E3 := Lib.hid (Dk.set_row E2'.out 2 (.slice (some ⟨g', 0, none⟩) s.wait.length c')))
      | (go_at_call 39; refine (Dk.map_clone39' rfl HA3.out.late).mono ?_; rintro e w4 ⟨rfl, HM4, hb4, hs4⟩; have hs3 : w2.heap.size ≤ w3.heap.size := by { have := hb3.size; simp [World.setCell] at this; exact this }; have E4 := Lib.hid ((hb4.block w.heap.size (by omega)).trans E3.out); have k3 : w4.cell? ⟨w.heap.size, 3, none⟩ = some (.map (some c)) := cell_of_row _ _ 3 _ _ _ E4.out; have f3 := Dk.frozen_row E4.out 3))
    go_ret
    exact ⟨rfl, Dk.born_clone HOK.out.1 HOK.out.2 hg1 hs1 HM2.out hb2 hs2 HO3.out hb3 HM4.out hb4, (hb3'.trans (hb4.mono (by omega))).setCell (Nat.le_refl _) _⟩
theorem clone_any (w : World) (p : Nat) (F : Nat → Prop) (s : Dk.S) (h : Dk.Dsk w p F s) (hw : s.wait.length < 100000) :
    Calls Try.prog 25 #[.pointer (some ⟨p, 0, none⟩)] w fun e w' => e = .returned (.pointer (some ⟨w.heap.size, 0, none⟩)) ∧ Hid (Dk.Born w w' w.heap.size s) ∧ Below w.heap.size w w' := by
  obtain ⟨a, c, v, hA, rfl⟩ := h
  refine clone_core w p a c v s hA hw ?_
  rcases hA.row.2 with ⟨h1, h2⟩ | ⟨g, cap, cur, h1, _⟩
  · exact .inl ⟨h1, h2⟩
  · exact .inr ⟨g, cap, h1⟩
end Go.Proofs.Ytngpdjkeoodigaa
