/- Contracts of seal, head, numberAt, generationOf. -/
import Derived.Test.YtogkaoiiddhdbaaByt
namespace Go.Proofs.Ytogkaoiiddhdbaa
open Go.RowKit

namespace Wl
/-- copy into a row of bytes. -/
theorem wpList_copyB {w : World} {ops : Array Oper} {rest : List Oper} {o : Oper} {a : Act} {Q : Exit → Act → World → Prop} (hgd : o.guard = none) (d s : Operand)
    (ho : o.op = .call { callee := .builtin .copy, args := #[d, s], argTypes := #[40, 40] }) (g off dLen dCap : Nat) (hd : a.eval d = .slice (some ⟨g, off, none⟩) dLen dCap) (A : Option Addr) (l : List UInt8) (sCap : Nat) (hs : a.eval s = .slice A l.length sCap)
    (cur L : List UInt8) (hr : Dk.Row w g 5 cur) {G : Nat → Prop} (hb : Dk.Bts w G A l) (hl : l.length ≤ dLen) (hfit : off + l.length ≤ cur.length) (B : Nat) (w0 : World) (hbl : Below B w0 w) (hBg : B ≤ g) (hL : cur.take off ++ (l ++ cur.drop (off + l.length)) = L)
    (h : ∀ w', Hid (Dk.Row w' g 5 L) → Below B w0 w' → wpList Try.prog ops Q rest (a.put o.dst (goInt l.length)) w') : wpList Try.prog ops Q (o :: rest) a w := by
  refine wpList_copy_splice hgd d s 40 40 ho 5 Try.underlying40 Dk.u8_size _ _ _ _ _ _ hd hs g off (Dk.cells8 cur) 5 hr (Dk.cells8 l) (by rw [Dk.length_cells8]; exact (Nat.min_eq_left hl).symm) ?_ (by rw [Dk.length_cells8, Dk.length_cells8]; exact hfit) (Dk.one_cells8 l) B w0 hbl hBg ?_
  · intro hp
    rw [Dk.length_cells8] at hp
    obtain ⟨b, bo, rfl, _, hc⟩ := hb hp
    refine ⟨rfl, _, rfl, fun j v hv => ?_⟩
    have hj : j < l.length := by
      have := (List.getElem?_eq_some_iff.1 hv).1
      rwa [Dk.length_cells8] at this
    rw [Dk.get_cells8 l j hj] at hv
    injection hv with hv
    subst hv
    rw [Dk.add_plain]
    exact hc j hj
  · intro w' HR hb'
    rw [Dk.length_cells8]
    refine h w' ?_ hb'
    have := HR.out
    show _ = _
    rw [this, ← hL]
    simp [splice, Dk.cells8]
/-- The call answered a new sector. -/
def NewS (w : World) (l : List UInt8) (e : Ending) (w' : World) : Prop := ∃ g, e = .returned (.slice (some ⟨g, 0, none⟩) 512 512) ∧ w.heap.size ≤ g ∧ Hid (Dk.Row w' g 5 l) ∧ Below w.heap.size w w'
theorem nul_drop (n k : Nat) : (nul n).drop k = nul (n - k) := by simp [nul]
theorem sealA (f d : List UInt8) (h : f.length + d.length ≤ 508) : ((f ++ nul (508 - f.length)).take f.length ++ (d ++ (f ++ nul (508 - f.length)).drop (f.length + d.length))) = fill (f ++ d) := by
  unfold fill
  rw [List.take_left, List.append_assoc, List.length_append]
  congr 2
  rw [List.drop_append, List.drop_eq_nil_of_le (by omega), List.nil_append, nul_drop]
  congr 1
  omega
end Wl
/-- Sum of one part. -/
theorem sum_one (W : World) (A : Option Addr) (l : List UInt8) (c n g : Nat) (G : Nat → Prop) (h : Dk.Bts W G A l) (hl : l.length ≤ 1152921504606846976) (hn : l.length = n) (hg : W.heap.size = g) :
    Calls Try.prog 95 #[.slice (some ⟨g, 0, none⟩) 1 1] (W.alloc (.cells #[.slice A n c] 40)) fun e w' => e = .returned (.int .u32 ((Wd.crc l : Nat) : Int)) ∧ Hid (W.alloc (.cells #[.slice A n c] 40) = w') := by
  subst hn
  subst hg
  have hB : Wd.Bts W W.heap.size A l := Wl.Bts.mono h.lt (fun k hk => hk.2)
  have hp : Wd.Prts (W.alloc (.cells #[.slice A l.length c] 40)) (W.heap.size + 1) (some ⟨W.heap.size, 0, none⟩) [l] := fun _ => ⟨_, 0, rfl, by omega, fun j hj => by
    obtain rfl : j = 0 := by simpa using hj
    exact ⟨A, c, cell_of_row _ _ 0 _ _ _ (heap_alloc_new W _), (hB.below ((Below.refl _ _).alloc (Nat.le_refl _) _)).more (by omega)⟩⟩
  have hs := sum_any _ 1 _ [l] _ hp (show 1 ≤ _ by decide) (fun j hj => by
    obtain rfl : j = 0 := by simpa using hj
    exact hl)
  exact hs
/-- Put, as it is called here. -/
theorem put_at (w : World) (A : Option Addr) (l : List UInt8) (c n k m : Nat) (x s : Int) (G : Nat → Prop) (h : Dk.Bts w G A l) (hl : l.length ≤ 100000) (hx : x = (n : Int)) (hn : n < 18446744073709551616) (hs : s = (k : Int)) (hk : k ≤ 8) (hm : m = l.length) :
    Calls Try.prog 78 #[.slice A m c, .int .u64 x, .int .i64 s] w fun e w' => e = .returned (.slice (some ⟨w.heap.size, 0, none⟩) (m + k) (m + k)) ∧
      Hid (Dk.Row w' w.heap.size 5 (l ++ Wd.putL n k)) ∧ Below w.heap.size w w' := by
  subst hx hs hm
  have hB : Wd.Bts w w.heap.size A l := Wl.Bts.mono h.lt (fun k hk => hk.2)
  have := put_any A l c w.heap.size n (k : Int) w hB (Nat.le_refl _) (by omega) hn
  have e : Wd.clamp (k : Int) = k := by unfold Wd.clamp; rw [if_neg (by omega), if_neg (by omega)]; omega
  rw [e] at this
  exact this
theorem seal_any (w : World) (A B : Option Addr) (f d : List UInt8) (ca cb : Nat) (G G' : Nat → Prop) (hf : Dk.Bts w G A f) (hd : Dk.Bts w G' B d) (hl : f.length + d.length ≤ 508) (hf1 : f.length ≤ 100) :
    Calls Try.prog 79 #[.slice A f.length ca, .slice B d.length cb] w fun e w' => Wl.NewS w (Wl.sealed (f ++ d)) e w' := by
  have HF := Lib.hid hf.lt
  have HD := Lib.hid hd.lt
  have hL1 : Hid ((Wl.nul 508).take 0 ++ (f ++ (Wl.nul 508).drop (0 + f.length)) = f ++ Wl.nul (508 - f.length)) := show _ = _ by rw [Wl.nul_drop, Nat.zero_add]; rfl
  have hL2 := Lib.hid (Wl.sealA f d hl)
  have hlen : (f ++ Wl.nul (508 - f.length)).length = 508 := by simp [Wl.nul]; omega
  have HLen := Lib.hid hlen
  have hfl : (Wl.fill (f ++ d)).length = 508 := Wl.length_fill (by simpa using hl)
  have HFl := Lib.hid hfl
  have hcrc : Wd.crc (Wl.fill (f ++ d)) < 4294967296 := by unfold Wd.crc; omega
  clear hf hd hlen
  unfold Wl.sealed
  generalize Wl.fill (f ++ d) = M at *
  go_enter Try.func79, Try.ntmps79
  go_wp2_with (first
    | (at_make; refine Wl.wpList_make rfl _ _ rfl _ _ 508 rfl rfl rfl rfl (by omega) ?_; intro w1 HR1 hb1 hs1)
    | (refine Wl.wpList_copyB rfl _ _ rfl w.heap.size 0 508 508 rfl A f ca rfl _ _ HR1.out (HF.out.kept (fun k hk => hb1.block k hk.2)) (by omega) (by rw [Wl.length_nul]; omega) w.heap.size w hb1 (Nat.le_refl _) hL1.out ?_; intro w2 HR2 hb2)
    | (refine Wl.wpList_copyB rfl _ _ rfl w.heap.size f.length (508 - f.length) (508 - f.length) rfl B d cb rfl _ _ HR2.out (HD.out.kept (fun k hk => hb2.block k hk.2)) (by omega) (by rw [HLen.out]; exact hl) w.heap.size w hb2 (Nat.le_refl _) hL2.out ?_; intro w3 HR3 hb3)
    | (go_at_call 95; refine (sum_one w3 _ M 508 508 _ _ HR3.out.bts (by omega) hfl rfl).mono ?_; rintro e w4 ⟨rfl, HW4⟩)
    | (go_at_call 78; refine (put_at w4 _ M 508 (Wd.crc M) 4 508 _ 4 (· = w.heap.size) (HW4.out ▸ (HR3.out.bts.kept (fun k hk => Below.heap_alloc _ _ _ (hk ▸ HR3.out.lt)))) (by omega) (by omega) (by omega) (by decide) (by omega) hfl.symm).mono ?_; rintro e w5 ⟨rfl, HR5, hb5⟩))
  go_ret
  have h4 : Below w.heap.size w w4 := by rw [← HW4.out]; exact hb3.alloc hb3.size _
  refine ⟨w4.heap.size, rfl, h4.size, HR5, h4.trans (hb5.mono h4.size)⟩
theorem seal_at (w : World) (A B : Option Addr) (f d : List UInt8) (n m ca cb : Nat) (G G' : Nat → Prop) (hf : Dk.Bts w G A f) (hd : Dk.Bts w G' B d) (hn : n = f.length) (hm : m = d.length) (hl : f.length + d.length ≤ 508) (hf1 : f.length ≤ 100) :
    Calls Try.prog 79 #[.slice A n ca, .slice B m cb] w fun e w' => Wl.NewS w (Wl.sealed (f ++ d)) e w' := by
  subst hn hm
  exact seal_any w A B f d ca cb G G' hf hd hl hf1
theorem Wl.row_lit (w : World) (x : Int) (c : UInt8) (h : x = (c.toNat : Int)) : Dk.Row (w.alloc (.cells #[.int .u8 x] 5)) w.heap.size 5 [c] := by
  subst h
  exact heap_alloc_new w _
/-- Put behind one byte that was typed out. -/
theorem put_lit (w : World) (b : Int) (c : UInt8) (n k : Nat) (x s : Int) (hb : b = (c.toNat : Int)) (hx : x = (n : Int)) (hn : n < 18446744073709551616) (hs : s = (k : Int)) (hk : k ≤ 8) :
    Calls Try.prog 78 #[.slice (some ⟨w.heap.size, 0, none⟩) 1 1, .int .u64 x, .int .i64 s] (w.alloc (.cells #[.int .u8 b] 5)) fun e w' => e = .returned (.slice (some ⟨w.heap.size + 1, 0, none⟩) (1 + k) (1 + k)) ∧
      Hid (Dk.Row w' (w.heap.size + 1) 5 ([c] ++ Wd.putL n k)) ∧ Below w.heap.size w w' := by
  have hr := Wl.row_lit w b c hb
  have hz : (w.alloc (.cells #[.int .u8 b] 5)).heap.size = w.heap.size + 1 := by simp
  have hb0 := (Below.refl w.heap.size w).alloc (Nat.le_refl _) (.cells #[.int .u8 b] 5)
  have := put_at _ _ [c] 1 n k 1 x s _ hr.bts (by simp) hx hn hs hk rfl
  rw [hz] at this
  refine this.mono fun e w' ⟨h1, h2, h3⟩ => ⟨h1, h2, hb0.trans (h3.mono (by omega))⟩
theorem head_any (w : World) (g : Nat) (hg : g < 4294967296) :
    Calls Try.prog 80 #[.int .u32 (g : Int)] w fun e w' => Wl.NewS w (Wl.head g) e w' := by
  have hlen : ([1] ++ Wd.putL g 4 : List UInt8).length = 5 := by simp [Wd.length_putL]
  unfold Wl.head
  go_enter Try.func80, Try.ntmps80
  go_wp2_with (first
    | (go_at_call 78; refine (put_lit w 1 1 g 4 _ 4 (by decide) (by omega) (by omega) (by decide) (by omega)).mono ?_; rintro e w1 ⟨rfl, HR1, hb1⟩)
    | (go_at_call 79; refine (seal_at w1 _ none ([1] ++ Wd.putL g 4) [] 5 0 _ 0 _ (fun _ => False) HR1.out.bts (fun h => absurd h (by decide)) hlen.symm rfl (by rw [hlen]; decide) (by rw [hlen]; decide)).mono ?_; rintro e w2 ⟨k, rfl, hk, HR2, hb2⟩))
  go_ret
  have hs := hb1.size
  refine ⟨k, rfl, by omega, ?_, hb1.trans (hb2.mono hs)⟩
  rw [List.append_nil] at HR2
  exact HR2
theorem numberAt_any (w : World) (A : Option Addr) (l : List UInt8) (c a k : Nat) (G : Nat → Prop) (h : Dk.Bts w G A l) (h1 : 1 ≤ k) (h2 : k ≤ 8) (h4 : a + k ≤ l.length) (hl : l.length ≤ 100000) :
    Calls Try.prog 98 #[.slice A l.length c, .int .i64 (a : Int), .int .i64 (k : Int)] w fun e w' => e = .returned (.int .u64 ((Wd.valB (Wd.part l a k) : Nat) : Int)) ∧ w = w' := by
  have HB : Hid (Wd.Bts w w.heap.size A l) := Wl.Bts.mono h.lt (fun k hk => hk.2)
  clear h
  go_enter Try.func98, Try.ntmps98
  go_wp2_with (go_at_call 101; refine (get_ok A l c w.heap.size a k w HB.out h1 h2 h4 (by omega)).mono ?_; rintro e w1 ⟨rfl, rfl⟩)
  go_ret
  exact ⟨rfl, rfl⟩
theorem numberAt_sec (w : World) (A : Option Addr) (l : List UInt8) (c a k n : Nat) (x y : Int) (G : Nat → Prop) (h : Dk.Bts w G A l) (hl : l.length = 512) (hn : n = 512) (hx : x = (a : Int)) (hy : y = (k : Int)) (h1 : 1 ≤ k) (h2 : k ≤ 8) (h4 : a + k ≤ 512) :
    Calls Try.prog 98 #[.slice A n c, .int .i64 x, .int .i64 y] w fun e w' => e = .returned (.int .u64 ((Wd.valB (Wd.part l a k) : Nat) : Int)) ∧ w = w' := by
  subst hn hx hy
  rw [← hl]
  exact numberAt_any w A l c a k G h h1 h2 (by omega) (by omega)
theorem Wl.gen_lt (l : List UInt8) : Wl.gen l < 4294967296 := by
  unfold Wl.gen
  refine Nat.lt_of_lt_of_le (Wd.valB_lt _) ?_
  exact Nat.le_trans (Nat.pow_le_pow_right (by omega) (show (Wd.part l 1 4).length ≤ 4 by simp [Wd.part]; omega)) (by decide)
theorem Wl.lenAt_lt (l : List UInt8) : Wl.lenAt l < 4294967296 := by
  unfold Wl.lenAt
  refine Nat.lt_of_lt_of_le (Wd.valB_lt _) ?_
  exact Nat.le_trans (Nat.pow_le_pow_right (by omega) (show (Wd.part l 13 4).length ≤ 4 by simp [Wd.part]; omega)) (by decide)
theorem generationOf_any (w : World) (A : Option Addr) (l : List UInt8) (c n : Nat) (G : Nat → Prop) (h : Dk.Bts w G A l) (hl : l.length = 512) (hn : n = 512) :
    Calls Try.prog 87 #[.slice A n c] w fun e w' => e = .returned (.int .u32 (Wl.gen l : Int)) ∧ w = w' := by
  subst hn
  have HB := Lib.hid h
  have hg := Wl.gen_lt l
  unfold Wl.gen at hg ⊢
  clear h
  go_enter Try.func87, Try.ntmps87
  go_wp2_with (go_at_call 98; refine (numberAt_sec w A l c 1 4 512 1 4 G HB.out hl rfl (by decide) (by decide) (by omega) (by omega) (by omega)).mono ?_; rintro e w1 ⟨rfl, rfl⟩)
  go_ret
  exact ⟨Wd.ret_int (by omega), rfl⟩
end Go.Proofs.Ytogkaoiiddhdbaa
