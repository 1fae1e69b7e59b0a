/- What a log is in memory; contracts of lay, Room, Generation, Records. -/
import Derived.Test.YtogkaoiiddhdbaaWrt
namespace Go.Proofs.Ytogkaoiiddhdbaa
open Go.RowKit

namespace Wl
/-- A row of slices of bytes, all of it in blocks of which R holds. -/
def RwsR (w : World) (R : Nat → Prop) (v : Value) (ps : List (List UInt8)) : Prop :=
  ∃ xs : List X, ∃ G : Nat → Prop, w.ownsRow 0 40 1 v xs.length (xs.map cellS) ∧ xs.map (·.2.2) = ps ∧ (∀ x ∈ xs, Dk.Bts w G x.1 x.2.2 ∧ (x.1 = none → x.2.1 = 0) ∧ x.2.2.length ≤ x.2.1) ∧
    (∀ k, G k → R k ∧ v.ownBlock ≠ some k) ∧ ∀ k, v.ownBlock = some k → R k
section
variable {w w' : World} {R R' : Nat → Prop} {v : Value} {ps : List (List UInt8)} {base : Nat}
theorem Rws.toR (h : Rws w base v ps) : RwsR w (fun k => base ≤ k ∧ k < w.heap.size) v ps := by
  have ho := h.own
  obtain ⟨xs, G, h1, h2, h3, h4⟩ := h.less (Nat.zero_le base)
  obtain ⟨xs, G, g1, g2, g3, g4⟩ := h
  refine ⟨xs, G, ⟨g1.1, ?_⟩, g2, g3, fun k hk => ⟨⟨(g4 k hk).1, (g4 k hk).2.1⟩, (g4 k hk).2.2⟩, ho⟩
  rcases g1.2 with h | ⟨g, cap, cur, hv, hg, r⟩
  · exact .inl h
  · exact .inr ⟨g, cap, cur, hv, Nat.zero_le _, r⟩
theorem RwsR.kept (h : RwsR w R v ps) (hk : ∀ k, R k → w'.heap[k]? = w.heap[k]?) : RwsR w' R v ps := by
  obtain ⟨xs, G, h1, h2, h3, h4, h5⟩ := h
  exact ⟨xs, G, ownsRow_keep h1 (fun g hg => hk g (h5 g hg)), h2, fun x hx => ⟨(h3 x hx).1.kept (fun k hk' => hk k (h4 k hk').1), (h3 x hx).2⟩, h4, h5⟩
theorem RwsR.mono (h : RwsR w R v ps) (hR : ∀ k, R k → R' k) : RwsR w R' v ps := by
  obtain ⟨xs, G, h1, h2, h3, h4, h5⟩ := h
  exact ⟨xs, G, h1, h2, h3, fun k hk => ⟨hR k (h4 k hk).1, (h4 k hk).2⟩, fun k hk => hR k (h5 k hk)⟩
theorem RwsR.form (h : RwsR w R v ps) : ∃ A cap, v = .slice A ps.length cap := by
  obtain ⟨xs, G, h1, rfl, _⟩ := h
  rw [List.length_map]
  exact ownsRow_form h1
theorem RwsR.prts {A : Option Addr} {n cap : Nat} (h : RwsR w R (.slice A n cap) ps) : Prts w R A ps := fun hl => by
  obtain ⟨xs, G, h1, rfl, h3, h4, h5⟩ := h
  rw [List.length_map] at hl
  rcases id h1.2 with ⟨_, hn⟩ | ⟨g, cap', cur, hv, hg, hh, _⟩
  · omega
  · injection hv with hA hn hc
    subst hA hn hc
    refine ⟨g, 0, rfl, h5 g rfl, fun j hj => ?_⟩
    rw [List.length_map] at hj
    have hc := World.ownsRow.cellAt h1 j (by omega)
    rw [List.getElem?_map, List.getElem?_eq_getElem hj] at hc
    simp only [List.getElem_map]
    refine ⟨xs[j].1, xs[j].2.1, by rw [Nat.zero_add]; exact hc, ?_, (h3 _ (List.getElem_mem hj)).2⟩
    exact Bts.mono (h3 _ (List.getElem_mem hj)).1 (fun k hk => (h4 k hk).1)
theorem RwsR.nil (w : World) (R : Nat → Prop) : RwsR w R (.slice none 0 0) [] :=
  ⟨[], fun _ => False, World.ownsRow_nil w 0 40 1, rfl, by simp, fun _ h => h.elim, fun k h => by cases h⟩
end
structure LgAt (w : World) (q p : Nat) (FD R : Nat → Prop) (v : Value) (t : L) : Prop where
  str : w.heap[q]? = some (.cells #[.pointer (some ⟨p, 0, none⟩), .int .u32 (t.g : Int), v, .int .i64 t.room, .bool t.closed] 95 (0, 0))
  dsk : Dk.Dsk w p FD t.d
  row : RwsR w R v t.rs
  qf : ¬ FD q
  qr : ¬ R q
  fr : ∀ k, FD k → ¬ R k
  rl : ∀ k, R k → k < w.heap.size
def FF (q : Nat) (FD R : Nat → Prop) : Nat → Prop := fun k => k = q ∨ FD k ∨ R k
def Lg (w : World) (q p : Nat) (F : Nat → Prop) (t : L) : Prop := ∃ FD R v, LgAt w q p FD R v t ∧ F = FF q FD R
def GoneL (w : World) (F : Nat → Prop) (w' : World) (q p : Nat) (t : L) : Prop := ∃ F', Lg w' q p F' t ∧ Dk.Moved w F w' F'
section
variable {w w' : World} {q p : Nat} {FD R F FD' : Nat → Prop} {v : Value} {t : L}
theorem LgAt.cell (h : LgAt w q p FD R v t) (j : Nat) : w.cell? ⟨q, j, none⟩ = (#[.pointer (some ⟨p, 0, none⟩), .int .u32 (t.g : Int), v, .int .i64 t.room, .bool t.closed] : Array Value)[j]? :=
  cell_of_row w q j _ _ _ h.str
theorem LgAt.free (h : LgAt w q p FD R v t) (j : Nat) : w.frozen? ⟨q, j, none⟩ = false := by
  simp [World.frozen?, h.str]
theorem LgAt.c0 (h : LgAt w q p FD R v t) : w.cell? ⟨q, 0, none⟩ = some (.pointer (some ⟨p, 0, none⟩)) := h.cell 0
theorem LgAt.c1 (h : LgAt w q p FD R v t) : w.cell? ⟨q, 1, none⟩ = some (.int .u32 (t.g : Int)) := h.cell 1
theorem LgAt.c2 (h : LgAt w q p FD R v t) : w.cell? ⟨q, 2, none⟩ = some v := h.cell 2
theorem LgAt.c3 (h : LgAt w q p FD R v t) : w.cell? ⟨q, 3, none⟩ = some (.int .i64 t.room) := h.cell 3
theorem LgAt.c4 (h : LgAt w q p FD R v t) : w.cell? ⟨q, 4, none⟩ = some (.bool t.closed) := h.cell 4
theorem LgAt.lt (h : LgAt w q p FD R v t) : ∀ k, FF q FD R k → k < w.heap.size := by
  rintro k (rfl | hk | hk)
  · exact Dk.lt_of_some h.str
  · exact h.dsk.lt k hk
  · exact h.rl k hk
theorem LgAt.kept (h : LgAt w q p FD R v t) (hs : w.heap.size ≤ w'.heap.size) (e : ∀ k, FF q FD R k → w'.heap[k]? = w.heap[k]?) : LgAt w' q p FD R v t :=
  ⟨(e q (.inl rfl)).trans h.str, h.dsk.kept (fun k hk => e k (.inr (.inl hk))), h.row.kept (fun k hk => e k (.inr (.inr hk))), h.qf, h.qr, h.fr, fun k hk => Nat.lt_of_lt_of_le (h.rl k hk) hs⟩
theorem LgAt.below (h : LgAt w q p FD R v t) (hb : Below w.heap.size w w') : LgAt w' q p FD R v t := h.kept hb.size (fun k hk => hb.block k (h.lt k hk))
/-- The disk has gone on. -/
theorem LgAt.disk (h : LgAt w q p FD R v t) {d : Dk.S} (hd : Dk.Dsk w' p FD' d) (hm : Dk.Moved w FD w' FD') : LgAt w' q p FD' R v { t with d := d } := by
  have hq := Dk.lt_of_some h.str
  refine ⟨(hm.1.block q hq h.qf).trans h.str, hd, h.row.kept (fun k hk => hm.1.block k (h.rl k hk) (fun hf => h.fr k hf hk)), fun hf => ?_, h.qr, fun k hf hr => ?_, fun k hk => Nat.lt_of_lt_of_le (h.rl k hk) hm.1.size⟩
  · rcases hm.2 q hf with h1 | h1
    · exact h.qf h1
    · omega
  · rcases hm.2 k hf with h1 | h1
    · exact h.fr k h1 hr
    · have := h.rl k hr; omega
theorem Moved.ff (hm : Dk.Moved w FD w' FD') (q : Nat) (R : Nat → Prop) : Dk.Moved w (FF q FD R) w' (FF q FD' R) :=
  ⟨hm.1.mono (fun k hk => .inr (.inl hk)), by
    rintro k (h | h | h)
    · exact .inl (.inl h)
    · exact (hm.2 k h).imp (fun h => .inr (.inl h)) id
    · exact .inl (.inr (.inr h))⟩
/-- A store into the struct. -/
theorem LgAt.set (h : LgAt w q p FD R v t) (j : Nat) (u : Value) (t' : L) (hd : t'.d = t.d) (hr : t'.rs = t.rs)
    (e : (#[.pointer (some ⟨p, 0, none⟩), .int .u32 (t.g : Int), v, .int .i64 t.room, .bool t.closed] : Array Value).setIfInBounds j u = #[.pointer (some ⟨p, 0, none⟩), .int .u32 (t'.g : Int), v, .int .i64 t'.room, .bool t'.closed]) :
    LgAt (w.setCell ⟨q, j, none⟩ u) q p FD R v t' := by
  have hk : ∀ k, k ≠ q → (w.setCell ⟨q, j, none⟩ u).heap[k]? = w.heap[k]? := fun k hk => Below.heap_setCell _ _ _ _ hk
  have hs : (w.setCell ⟨q, j, none⟩ u).heap.size = w.heap.size := by simp [World.setCell]
  refine ⟨?_, ?_, ?_, h.qf, h.qr, h.fr, fun k hk => by rw [hs]; exact h.rl k hk⟩
  · rw [← e]
    simp [World.setCell, Array.getElem?_modify, h.str]
  · rw [hd]; exact h.dsk.kept (fun k hk' => hk k (fun e => h.qf (e ▸ hk')))
  · rw [hr]; exact h.row.kept (fun k hk' => hk k (fun e => h.qr (e ▸ hk')))
theorem Moved.set (w : World) (q j : Nat) (FD R : Nat → Prop) (u : Value) : Dk.Moved w (FF q FD R) (w.setCell ⟨q, j, none⟩ u) (FF q FD R) := Dk.Moved.still (Dk.Fr.setCell w (.inl rfl) u)
end
end Wl

theorem room_any (w : World) (q p : Nat) (FD R : Nat → Prop) (v : Value) (t : Wl.L) (h : Wl.LgAt w q p FD R v t) :
    Calls Try.prog 39 #[.pointer (some ⟨q, 0, none⟩)] w fun e w' => e = .returned (.int .i64 t.room) ∧ w = w' := by
  have c3 := h.c3
  clear h
  go_enter Try.func39, Try.ntmps39
  go_wp2
  go_ret
  exact ⟨rfl, rfl⟩
theorem generation_any (w : World) (q p : Nat) (FD R : Nat → Prop) (v : Value) (t : Wl.L) (h : Wl.LgAt w q p FD R v t) :
    Calls Try.prog 40 #[.pointer (some ⟨q, 0, none⟩)] w fun e w' => e = .returned (.int .u32 (t.g : Int)) ∧ w = w' := by
  have c1 := h.c1
  clear h
  go_enter Try.func40, Try.ntmps40
  go_wp2
  go_ret
  exact ⟨rfl, rfl⟩
theorem records_any (w : World) (q p : Nat) (FD R : Nat → Prop) (v : Value) (t : Wl.L) (h : Wl.LgAt w q p FD R v t) (hn : t.rs.length ≤ 900000) (hl : ∀ x ∈ t.rs, x.length ≤ 8192) :
    Calls Try.prog 34 #[.pointer (some ⟨q, 0, none⟩)] w fun e w' => Wl.NewR w t.rs e w' := by
  obtain ⟨A, cap, rfl⟩ := h.row.form
  have c2 := h.c2
  have HP := Lib.hid h.row.prts
  have HL := Lib.hid hl
  clear h hl
  go_enter Try.func34, Try.ntmps34
  go_wp2_with (go_at_call 57; refine (cloneAll_any _ A t.rs cap _ HP.out hn (fun j hj => by have := HL.out _ (List.getElem_mem hj); omega)).mono ?_; rintro e w1 ⟨A2, c2', rfl, HR2, hb2⟩)
  go_ret
  exact ⟨A2, c2', rfl, HR2, hb2⟩
namespace Wl
def L.laid (t : L) (a : Dk.S × Int) : L := { t with d := a.1, closed := decide (a.2 ≠ 0) }
end Wl
theorem lay_any (w : World) (q p : Nat) (FD R : Nat → Prop) (v : Value) (t : Wl.L) (a : Nat) (A : Option Addr) (ps : List (List UInt8)) (c : Nat) (G : Nat → Prop) (h : Wl.LgAt w q p FD R v t) (hP : Wl.Prts w G A ps) (hdj : ∀ k, G k → ¬ FD k) (hl : ∀ x ∈ ps, x.length = 512)
    (ha : a + ps.length ≤ 100000) (hw : t.d.wait.length + ps.length < 100000) (hl0 : 0 ≤ t.d.left) (hl1 : t.d.left ≤ 9223372036854775807) :
    Calls Try.prog 50 #[.pointer (some ⟨q, 0, none⟩), .int .i64 (a : Int), .slice A ps.length c] w fun e w' => e = .returned (.int .i64 (Wl.lay t.d a ps).2) ∧
      Hid (∃ FD', Wl.LgAt w' q p FD' R v (t.laid (Wl.lay t.d a ps)) ∧ Dk.Moved w (Wl.FF q FD R) w' (Wl.FF q FD' R)) := by
  have c0 := h.c0
  have HH := Lib.hid h
  have HWA := Lib.hid (writeAll_any w p FD t.d a A ps c G h.dsk hP hdj hl ha hw hl0 hl1)
  obtain ⟨f1, f2, f3, f4⟩ := Wl.layAll_facts ps t.d a hl0
  clear h hP hdj hl
  unfold Wl.lay
  generalize Wl.layAll t.d a ps = X at *
  obtain ⟨s1, e1⟩ := X
  simp only at f1 f2 f3 f4
  by_cases h1 : e1 = 0
  · subst h1
    have HFL : Hid (∀ w1 FD1, Dk.Dsk w1 p FD1 s1 → Calls Try.prog 32 #[.pointer (some ⟨p, 0, none⟩)] w1 fun e w' => e = .returned (.int .i64 s1.fcode) ∧ Hid (Dk.Gone w1 FD1 w' p s1.flush)) := fun w1 FD1 hD => flush_any w1 p FD1 s1 hD (by omega) f2 (by omega)
    simp only [if_true]
    generalize s1.flush = s2 at *
    generalize hE : s1.fcode = E at *
    clear f1 f2 f3 f4 hE
    by_cases h2 : E = 0
    · have hb : (E != 0) = false := by rw [h2]; rfl
      have HL : Hid (decide (E ≠ 0) = false) := show _ = _ by simp [h2]
      clear h2
      go_enter Try.func50, Try.ntmps50
      go_wp2_with (first
        | (go_at_call 77; refine HWA.out.mono ?_; rintro e w1 ⟨rfl, HG1⟩; obtain ⟨FD1, hD1, hM1⟩ := HG1.out; have HL1 := Lib.hid (HH.out.disk hD1 hM1); have c01 := HL1.out.c0; have HM1 := Lib.hid hM1; have HD1 := Lib.hid hD1; clear hD1 hM1 HG1 c0)
        | (go_at_call 32; refine (HFL.out _ _ HD1.out).mono ?_; rintro e w2 ⟨rfl, HG2⟩; obtain ⟨FD2, hD2, hM2⟩ := HG2.out; have HL2 := Lib.hid (HL1.out.disk hD2 hM2); have c42 := HL2.out.c4; have f42 := HL2.out.free 4; have HM2 := Lib.hid (HM1.out.trans hM2); clear hD2 hM2 HG2))
      go_ret
      refine ⟨rfl, FD2, ?_, (Wl.Moved.ff HM2.out q R).trans (Wl.Moved.set _ q 4 FD2 R _)⟩
      refine HL2.out.set 4 _ _ rfl rfl ?_
      simp only [Wl.L.laid, HL.out]
      rfl
    · have hb : (E != 0) = true := bne_iff_ne.2 h2
      have HL : Hid (decide (E ≠ 0) = true) := show _ = _ by simp [h2]
      clear h2
      go_enter Try.func50, Try.ntmps50
      go_wp2_with (first
        | (go_at_call 77; refine HWA.out.mono ?_; rintro e w1 ⟨rfl, HG1⟩; obtain ⟨FD1, hD1, hM1⟩ := HG1.out; have HL1 := Lib.hid (HH.out.disk hD1 hM1); have c01 := HL1.out.c0; have HM1 := Lib.hid hM1; have HD1 := Lib.hid hD1; clear hD1 hM1 HG1 c0)
        | (go_at_call 32; refine (HFL.out _ _ HD1.out).mono ?_; rintro e w2 ⟨rfl, HG2⟩; obtain ⟨FD2, hD2, hM2⟩ := HG2.out; have HL2 := Lib.hid (HL1.out.disk hD2 hM2); have c42 := HL2.out.c4; have f42 := HL2.out.free 4; have HM2 := Lib.hid (HM1.out.trans hM2); clear hD2 hM2 HG2))
      go_ret
      refine ⟨rfl, FD2, ?_, (Wl.Moved.ff HM2.out q R).trans (Wl.Moved.set _ q 4 FD2 R _)⟩
      refine HL2.out.set 4 _ _ rfl rfl ?_
      simp only [Wl.L.laid, HL.out]
      rfl
  · have hb : (e1 != 0) = true := bne_iff_ne.2 h1
    have hb2 : (e1 == 0) = false := beq_eq_false_iff_ne.2 h1
    have HL : Hid (decide (e1 ≠ 0) = true) := show _ = _ by simp [h1]
    simp only [h1, if_false]
    clear h1 f1 f2 f3 f4
    go_enter Try.func50, Try.ntmps50
    go_wp2_with (go_at_call 77; refine HWA.out.mono ?_; rintro e w1 ⟨rfl, HG1⟩; obtain ⟨FD1, hD1, hM1⟩ := HG1.out; have HL1 := Lib.hid (HH.out.disk hD1 hM1); have c41 := HL1.out.c4; have f41 := HL1.out.free 4; have HM1 := Lib.hid hM1; clear hD1 hM1 HG1 c0)
    go_ret
    refine ⟨rfl, FD1, ?_, (Wl.Moved.ff HM1.out q R).trans (Wl.Moved.set _ q 4 FD1 R _)⟩
    refine HL1.out.set 4 _ _ rfl rfl ?_
    simp only [Wl.L.laid, HL.out]
    rfl
theorem lay_at (w : World) (q p : Nat) (FD R : Nat → Prop) (v : Value) (t : Wl.L) (a n : Nat) (x : Int) (A : Option Addr) (ps : List (List UInt8)) (c : Nat) (G : Nat → Prop) (X : Dk.S × Int) (h : Wl.LgAt w q p FD R v t) (hP : Wl.Prts w G A ps) (hdj : ∀ k, G k → ¬ FD k) (hl : ∀ x ∈ ps, x.length = 512) (hx : x = (a : Int)) (hn : n = ps.length)
    (ha : a + ps.length ≤ 100000) (hw : t.d.wait.length + ps.length < 100000) (hl0 : 0 ≤ t.d.left) (hl1 : t.d.left ≤ 9223372036854775807) (hX : Wl.lay t.d a ps = X) :
    Calls Try.prog 50 #[.pointer (some ⟨q, 0, none⟩), .int .i64 x, .slice A n c] w fun e w' => e = .returned (.int .i64 X.2) ∧
      Hid (∃ FD', Wl.LgAt w' q p FD' R v (t.laid X) ∧ Dk.Moved w (Wl.FF q FD R) w' (Wl.FF q FD' R)) := by
  subst hx hn hX
  exact lay_any w q p FD R v t a A ps c G h hP hdj hl ha hw hl0 hl1
end Go.Proofs.Ytogkaoiiddhdbaa
