/- Rows of texts in memory; contracts of Texts and Same. -/
import Derived.Test.YtogkaoiiddhdbaaHlp
namespace Go.Proofs.Ytogkaoiiddhdbaa
open Go.RowKit

namespace Wl
theorem drewN_below {B : Nat} {a w : World} (h : Below B a w) (n : Nat) : Below B a (w.drewN n) := h.trans ⟨rfl, rfl, rfl, Nat.le_refl _, fun _ _ => rfl⟩
def strV (l : List UInt8) : Value := .string ⟨l.toArray⟩
/-- The slice at A holds the texts ts. -/
def Txt (w : World) (G : Nat → Prop) (A : Option Addr) (ts : List (List UInt8)) : Prop :=
  0 < ts.length → ∃ b off, A = some ⟨b, off, none⟩ ∧ G b ∧ ∀ j (hj : j < ts.length), w.cell? ⟨b, off + j, none⟩ = some (strV ts[j])
/-- v is a row of the call's own of the texts ts. -/
def OwnT (w : World) (base : Nat) (v : Value) (ts : List (List UInt8)) : Prop := w.ownsRow base 9 1 v ts.length (ts.map strV)
section
variable {w w' : World} {G : Nat → Prop} {A : Option Addr} {ts : List (List UInt8)} {base cap n : Nat} {v : Value}
theorem Txt.kept (h : Txt w G A ts) (hb : ∀ k, G k → w'.heap[k]? = w.heap[k]?) : Txt w' G A ts := fun hl => by
  obtain ⟨b, off, e, hB, hc⟩ := h hl
  exact ⟨b, off, e, hB, fun j hj => (World.cell?_of_block (w := w) (a := ⟨b, off + j, none⟩) (hb b hB)).trans (hc j hj)⟩
theorem Txt.mono {G' : Nat → Prop} (h : Txt w G A ts) (hG : ∀ k, G k → G' k) : Txt w G' A ts := fun hl => by
  obtain ⟨b, off, e, hB, hc⟩ := h hl
  exact ⟨b, off, e, hG b hB, hc⟩
theorem Txt.lt (h : Txt w G A ts) : Txt w (fun k => G k ∧ k < w.heap.size) A ts := fun hl => by
  obtain ⟨b, off, e, hB, hc⟩ := h hl
  exact ⟨b, off, e, ⟨hB, World.block_lt_of_cell? w _ (hc 0 hl)⟩, hc⟩
theorem OwnT.nil (w : World) (base : Nat) : OwnT w base (.slice none 0 0) [] := World.ownsRow_nil w base 9 1
theorem OwnT.form (h : OwnT w base v ts) : ∃ A cap, v = .slice A ts.length cap := ownsRow_form h
theorem OwnT.below (h : OwnT w base v ts) (hb : Below w.heap.size w w') : OwnT w' base v ts := ownsRow_keep h (fun g hg => hb.block g (h.lt g hg).2)
theorem OwnT.txt (h : OwnT w base (.slice A n cap) ts) : Txt w (fun k => base ≤ k ∧ k < w.heap.size) A ts := fun hl => by
  rcases id h.2 with ⟨_, hn⟩ | ⟨g, cap', cur, hv, hg, hh, _⟩
  · omega
  · injection hv with hA hn hc
    subst hA hn hc
    refine ⟨g, 0, rfl, ⟨hg, (h.lt g rfl).2⟩, fun j hj => ?_⟩
    have hc := World.ownsRow.cellAt h j (by omega)
    rw [List.getElem?_map, List.getElem?_eq_getElem hj] at hc
    rw [Nat.zero_add]
    exact hc
theorem OwnT.own (h : OwnT w base v ts) : ∀ k, v.ownBlock = some k → base ≤ k ∧ k < w.heap.size := h.lt
end
theorem s9_info : (Try.prog.info? 9).map (fun i => (i.zero, i.size, i.bytes)) = some (some (.string ⟨#[]⟩), 1, 16) := by kernel_rfl
theorem u35 : Try.prog.underlying 35 = some (.slice 9) := by kernel_rfl
/-- append(texts, t), behind the literal's making. -/
theorem wpList_appendT {w1 : World} {ops : Array Oper} {rest : List Oper} {o : Oper} {a : Act} {Q : Exit → Act → World → Prop} (hgd : o.guard = none) (s x : Operand)
    (ho : o.op = .call { callee := .builtin .append, args := #[s, x], argTypes := #[35, 35] })
    (base : Nat) (v : Value) (ts L : List (List UInt8)) (l : List UInt8) (hown : OwnT w1 base v ts) (hs : a.eval s = v) (g : Nat) (hg : g = w1.heap.size) (hx : a.eval x = .slice (some ⟨g, 0, none⟩) 1 1)
    (hL : ts ++ [l] = L) (nL : Nat) (hnL : nL = L.length) (hlen : L.length ≤ 1000000) (hbase : base ≤ w1.heap.size)
    (h : ∀ A' cap' w', Hid (OwnT w' base (.slice A' nL cap') L) → Below base w1 w' → wpList Try.prog ops Q rest (a.put o.dst (.slice A' nL cap')) w') : wpList Try.prog ops Q (o :: rest) a (w1.alloc (.cells #[.string ⟨l.toArray⟩] 9)) := by
  subst hg hnL hL
  obtain ⟨i0, hi0, hz0, hz1, hz2⟩ := info_parts s9_info
  have hb1 := (Below.refl w1.heap.size w1).alloc (Nat.le_refl _) (.cells #[.string ⟨l.toArray⟩] 9)
  have hz : (w1.alloc (.cells #[.string ⟨l.toArray⟩] 9)).heap.size = w1.heap.size + 1 := by simp
  rw [List.length_append] at hlen
  simp only [List.length_cons, List.length_nil] at hlen
  refine wpList_append_own _ hgd s x 35 ho base 9 i0 (.string ⟨#[]⟩) 1 16 u35 hi0 hz0 hz1 hz2 rfl (by omega) v ts.length (ts.map strV) hs (hown.below hb1) ⟨w1.heap.size, 0, none⟩ 1 1 [strV l] hx (by simp) (fun j u hu => by
    have hj : j = 0 := by
      have := (List.getElem?_eq_some_iff.1 hu).1
      simpa using this
    subst hj
    rw [Dk.add_plain, cell_of_row _ _ _ _ _ _ (heap_alloc_new w1 _)]
    simpa [strV] using hu) (by intro u hu; simp at hu; subst hu; rfl) (by unfold maxLen; omega) (by omega) (by omega) ?_
  intro v' w' hown' hgr _
  have hown2 : OwnT w' base v' (ts ++ [l]) := by
    unfold OwnT
    simpa using hown'
  obtain ⟨A', cap', hv⟩ := hown2.form
  rw [hv] at hown2 ⊢
  exact h A' cap' w' hown2 ((hb1.mono hbase).trans ((Below.refl _ _).grown hgr (by omega) (fun k hk => (hown.own k hk).1)))
/-- The call answered new texts. -/
def NewT (w : World) (ts : List (List UInt8)) (e : Ending) (w' : World) : Prop := ∃ A' c', e = .returned (.slice A' ts.length c') ∧ Hid (OwnT w' w.heap.size (.slice A' ts.length c') ts) ∧ Below w.heap.size w w'
end Wl
theorem texts_any (w : World) (A : Option Addr) (ps : List (List UInt8)) (c n : Nat) (G : Nat → Prop) (h : Wl.Prts w G A ps) (hn : ps.length ≤ 900000) (hnn : n = ps.length) :
    Calls Try.prog 22 #[.slice A n c] w fun e w' => Wl.NewT w ps e w' := by
  subst hnn
  have H := Lib.hid h.lt
  clear h
  go_enter Try.func22, Try.ntmps22
  go_wp2
  go_loopw [3, 4] (fun v i wr => ∃ (k : Nat) (A' : Option Addr) (c' : Nat), k ≤ ps.length ∧ i = .int .i64 k ∧ v = .slice A' k c' ∧ Hid (Wl.OwnT wr w.heap.size (.slice A' k c') (ps.take k)) ∧ Below w.heap.size w wr) (fun _ i _ => ps.length - (intOf i).toNat)
  case atStart => exact ⟨0, none, 0, by omega, rfl, rfl, Wl.OwnT.nil _ _, Below.refl _ _⟩
  case round =>
    obtain ⟨k, A1, c1, hk, rfl, rfl, HR, hbk⟩ := hrel
    have hs0 := hbk.size
    by_cases hlt : k < ps.length
    · obtain ⟨b, off, A', c', rfl, _, hc, hB, _, _⟩ := (H.out.kept (w' := wr) (fun q hq => hbk.block q hq.2)).at_ k hlt
      have hcv := Dk.conv hB c'
      have hL := Lib.hid (Wl.take_snoc ps k hlt)
      have hlen1 : Hid ((ps.take (k + 1)).length = k + 1) := show _ = _ by rw [List.length_take]; omega
      clear hB
      generalize ps[k] = l at *
      go_wp2_with (at_builtin; refine Wl.wpList_appendT rfl (.tmp 11) (.tmp 17) rfl w.heap.size _ _ _ l HR.out rfl wr.heap.size rfl rfl hL.out (k + 1) hlen1.out.symm (by rw [hlen1.out]; omega) hs0 ?_; intro A3 c3 w3 HR3 hb3)
      go_roundw
      case rel => exact ⟨k + 1, A3, c3, by omega, by go_num, rfl, HR3, hbk.trans hb3⟩
      case measure => simp [intOf]; omega
    · have HT : Hid (k = ps.length) := show _ = _ by omega
      go_wp2
      go_ret
      obtain rfl := HT.out
      refine ⟨A1, c1, rfl, ?_, hbk⟩
      have := HR.out
      rw [List.take_of_length_le (by omega)] at this
      exact this
theorem same_any (w : World) (A B : Option Addr) (a b : List (List UInt8)) (ca cb n m : Nat) (G G' : Nat → Prop) (ha : Wl.Txt w G A a) (hb : Wl.Txt w G' B b) (hn : a.length ≤ 1000000) (hm : b.length ≤ 1000000) (hna : n = a.length) (hnb : m = b.length) :
    Calls Try.prog 35 #[.slice A n ca, .slice B m cb] w fun e w' => e = .returned (.bool (decide (a = b))) ∧ Below w.heap.size w w' := by
  subst hna hnb
  have HA := Lib.hid ha.lt
  have HB := Lib.hid hb.lt
  have hbl := Below.refl w.heap.size w
  clear ha hb
  by_cases hl : a.length = b.length
  · have HLL := Lib.hid hl
    go_enter Try.func35, Try.ntmps35
    go_wp2
    go_loopw [5] (fun i wr => ∃ k : Nat, k ≤ a.length ∧ i = .int .i64 k ∧ Hid (a.take k = b.take k) ∧ Below w.heap.size w wr) (fun i _ => a.length - (intOf i).toNat)
    case atStart => exact ⟨0, by omega, rfl, rfl, hbl⟩
    case round =>
      obtain ⟨k, hk, rfl, HE, hbk⟩ := hrel
      by_cases hlt : k < a.length
      · have hltb : k < b.length := by omega
        obtain ⟨b1, off1, rfl, _, hc1⟩ := (HA.out.kept (w' := wr) (fun q hq => hbk.block q hq.2)) (by omega)
        obtain ⟨b2, off2, rfl, _, hc2⟩ := (HB.out.kept (w' := wr) (fun q hq => hbk.block q hq.2)) (by omega)
        have d1 := hc1 k hlt
        have d2 := hc2 k hltb
        clear hc1 hc2
        unfold Wl.strV at d1 d2
        by_cases he : a[k] = b[k]
        · have HN : Hid (a.take (k + 1) = b.take (k + 1)) := show _ = _ by rw [← Wl.take_snoc a k hlt, ← Wl.take_snoc b k hltb, HE.out, he]
          rw [← he] at d2
          clear he
          generalize a[k] = x at *
          go_wp2
          go_quiet (fail)
          go_wp2
          go_roundw
          case rel => exact ⟨k + 1, by omega, by go_num, HN, Wl.drewN_below hbk _⟩
          case measure => simp [intOf]; omega
        · have HN : Hid (decide (a = b) = false) := show _ = _ from decide_eq_false (fun e => he (by subst e; rfl))
          have hne : (a[k] == b[k]) = false := beq_eq_false_iff_ne.2 he
          have hne2 : (a[k] != b[k]) = true := bne_iff_ne.2 he
          clear he
          generalize a[k] = x at *
          generalize b[k] = y at *
          go_wp2
          go_quiet (fail)
          go_wp2
          go_ret
          exact ⟨by rw [HN.out]; rfl, Wl.drewN_below hbk _⟩
      · have HN : Hid (decide (a = b) = true) := show _ = _ from decide_eq_true (by
          have := HE.out
          rwa [List.take_of_length_le (by omega), List.take_of_length_le (by omega)] at this)
        go_wp2
        go_ret
        exact ⟨by rw [HN.out]; rfl, hbk⟩
  · have HN : Hid (decide (a = b) = false) := show _ = _ from decide_eq_false (fun e => hl (by rw [e]))
    have hne : ((a.length : Int) == (b.length : Int)) = false := beq_eq_false_iff_ne.2 (by omega)
    have hne2 : ((a.length : Int) != (b.length : Int)) = true := bne_iff_ne.2 (by omega)
    clear hl
    go_enter Try.func35, Try.ntmps35
    go_wp2
    go_ret
    exact ⟨by rw [HN.out]; rfl, hbl⟩
end Go.Proofs.Ytogkaoiiddhdbaa
