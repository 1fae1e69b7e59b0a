/- Contracts of the statements' few, made. -/
import Derived.Test.YtonfkonjkgalhaaDoorPlApp
import Derived.Test.YtonfkonjkgalhaaDoorPlNew
import Derived.Test.YtonfkonjkgalhaaDoorPlFrm
namespace Go.Proofs.YtonfkonjkgalhaaDoor
open Go.RowKit Go.WideMaps
set_option linter.unusedVariables false

namespace Pl
def fewP (p : P) : Bool := decide (p.lt.size ≤ 200) && decide (p.ex.length ≤ 200) && decide (p.bl.length ≤ 200)
theorem zPlan : ∀ w, (zeroValue 32).run Tryd.prog w = .ok (.agg #[.int .i64 0, .int .i64 0, .string ⟨#[]⟩, .slice none 0 0, .slice none 0 0]) w := fun w => by kernel_rfl
theorem iSlI : (Tryd.prog.info? 29).map (·.size) = some 1 := by kernel_rfl
theorem enc_one (r : R) : ∀ v ∈ enc r, v.oneCell' = true := by
  intro v hv
  simp [enc] at hv
  rcases hv with rfl | rfl | rfl | rfl | rfl <;> rfl
end Pl
set_option maxHeartbeats 1000000 in
theorem few_any (r : Pl.R) (w : World) : Calls Tryd.prog 14 #[Pl.pv r] w fun e w' => e = .returned (.bool (Pl.fewP r.p)) ∧ Below w.heap.size w w' := by
  have HE : Hid (Pl.fewP r.p = (decide (r.p.lt.size ≤ 200) && decide (r.p.ex.length ≤ 200) && decide (r.p.bl.length ≤ 200))) := show _ = _ by rfl
  obtain ⟨⟨fr, la, lt, ex, bl⟩, eA, ec, bA, bc⟩ := r
  simp only at HE ⊢
  unfold Pl.pv
  have hbe := (Below.refl w.heap.size w).alloc (Nat.le_refl _) (.cells #[.int .i64 fr, .int .i64 la, .string lt, .slice eA ex.length ec, .slice bA bl.length bc] 32)
  generalize Pl.fewP _ = q at *
  generalize ex.length = n2 at *
  generalize bl.length = n3 at *
  by_cases h1 : lt.size ≤ 200
  · have d1 : decide ((lt.size : Int) ≤ 200) = true := by simp; omega
    by_cases h2 : n2 ≤ 200
    · have d2 : decide ((n2 : Int) ≤ 200) = true := by simp; omega
      go_enter Tryd.func14, Tryd.ntmps14
      go_wp2
      go_ret
      exact ⟨Pl.ret_bool (by rw [HE.out, decide_eq_true h1, decide_eq_true h2]; simp; omega), hbe⟩
    · have d2 : decide ((n2 : Int) ≤ 200) = false := by simp; omega
      go_enter Tryd.func14, Tryd.ntmps14
      go_wp2
      go_ret
      exact ⟨Pl.ret_bool (by rw [HE.out, decide_eq_true h1, decide_eq_false h2]; rfl), hbe⟩
  · have d1 : decide ((lt.size : Int) ≤ 200) = false := by simp; omega
    go_enter Tryd.func14, Tryd.ntmps14
    go_wp2
    go_ret
    exact ⟨Pl.ret_bool (by rw [HE.out, decide_eq_false h1]; rfl), hbe⟩
namespace Rw
theorem own_ty {w : World} {base n size : Nat} {e : TypeId} {v : Value} {xs : List Value} (h : w.ownsRow base e size v n xs) : ∀ k, v.ownBlock = some k → base ≤ k ∧ k < w.heap.size ∧ ∃ cur, w.heap[k]? = some (.cells cur e (0, 0)) := fun k hk => by
  obtain ⟨_, ⟨hv, h0⟩ | ⟨g, cap, cur, hv, hg, hh, _⟩⟩ := h
  · rw [hv] at hk; cases hk
  · rw [hv] at hk
    simp only [Value.ownBlock, Option.some.injEq] at hk
    subst hk
    exact ⟨hg, Rw.lt_of_some hh, cur, hh⟩
theorem own_kept {w w' : World} {base n size : Nat} {e : TypeId} {v : Value} {xs : List Value} (h : w.ownsRow base e size v n xs) (hb : ∀ k, v.ownBlock = some k → w'.heap[k]? = w.heap[k]?) : w'.ownsRow base e size v n xs := by
  obtain ⟨h1, h2 | ⟨g, cap, cur, hv, hg, hh, h3⟩⟩ := h
  · exact ⟨h1, .inl h2⟩
  · exact ⟨h1, .inr ⟨g, cap, cur, hv, hg, (hb g (by rw [hv]; rfl)).trans hh, h3⟩⟩
theorem own_ne {w : World} {base n m size size' : Nat} {e e' : TypeId} {v v' : Value} {xs xs' : List Value} (h : w.ownsRow base e size v n xs) (h' : w.ownsRow base e' size' v' m xs') (hne : e ≠ e') : ∀ k, v.ownBlock = some k → v'.ownBlock ≠ some k := fun k hk hk' => by
  obtain ⟨_, _, c, h1⟩ := own_ty h k hk
  obtain ⟨_, _, c', h2⟩ := own_ty h' k hk'
  rw [h1] at h2
  injection h2 with h2
  injection h2 with _ h2
  exact hne h2
theorem own_at {w : World} {base n size cap : Nat} {e : TypeId} {A : Option Addr} {xs : List Value} (h : w.ownsRow base e size (.slice A n cap) n xs) (j : Nat) (hn : 0 < n) (hj : j < n * size) : ∃ b v, A = some ⟨b, 0, none⟩ ∧ b < w.heap.size ∧ base ≤ b ∧ w.cell? ⟨b, j, none⟩ = some v ∧ w.frozen? ⟨b, j, none⟩ = false := by
  obtain ⟨b, cap', hv, h1, h2⟩ := h.form hn
  injection hv with e1 e2 e3
  subst e1
  have hl : j < xs.length := by rw [h.1]; exact hj
  exact ⟨b, xs[j], rfl, h2, h1, by rw [h.cellAt j hj, List.getElem?_eq_getElem hl], h.frozenAt j⟩
end Rw
namespace Pl
/-- What is known of the copy when New is called. -/
structure MadeIn (w1 w7 : World) (r : R) (A4 : Option Addr) (c4 : Nat) (A6 : Option Addr) (c6 : Nat) : Prop where
  wf : Wf ⟨r.p, A4, c4, A6, c6⟩
  ei : Ints w7 w7.heap.size A4 r.p.ex
  bs : Sts w7 w7.heap.size A6 r.p.bl
  oi : OwnI w7 (w1.heap.size + 1) (.slice A4 r.p.ex.length c4) r.p.ex
  os : OwnS w7 (w1.heap.size + 1) (.slice A6 r.p.bl.length c6) r.p.bl
theorem MadeIn.of {w1 w4 w5 w6 w7 : World} {r : R} {A4 A6 : Option Addr} {c4 c6 : Nat} (hw : Wf r) (h4 : r.p.ex.length ≤ c4) (h6 : r.p.bl.length ≤ c6) (o4 : OwnI w4 (w1.heap.size + 1) (.slice A4 r.p.ex.length c4) r.p.ex) (o6 : OwnS w6 (w1.heap.size + 1) (.slice A6 r.p.bl.length c6) r.p.bl)
    (f5 : Rw.Fr (· = w1.heap.size) w4 w5) (f6 : ∀ k, k < (w5.alloc (.cells #[] 23)).heap.size → k ≠ w5.heap.size → w6.heap[k]? = (w5.alloc (.cells #[] 23)).heap[k]?) (f7 : Rw.Fr (· = w1.heap.size) w6 w7) (hz5 : w1.heap.size < w5.heap.size) (hz6 : (w5.alloc (.cells #[] 23)).heap.size ≤ w6.heap.size) (hz45 : w4.heap.size ≤ w5.heap.size) : MadeIn w1 w7 r A4 c4 A6 c6 := by
  have hza : (w5.alloc (.cells #[] 23)).heap.size = w5.heap.size + 1 := by simp
  have i7 : OwnI w7 (w1.heap.size + 1) (.slice A4 r.p.ex.length c4) r.p.ex := o4.below fun k hk hk4 => by
    rw [f7.block k (by omega) (by omega), f6 k (by omega) (by omega), Below.heap_alloc _ _ _ (by omega), f5.block k hk4 (by omega)]
  have s7 : OwnS w7 (w1.heap.size + 1) (.slice A6 r.p.bl.length c6) r.p.bl := o6.keptB fun k hk hk6 => f7.block k hk6 (by omega)
  obtain ⟨A, c, e, _, hi⟩ := i7.ints
  injection e with e1 e2 e3
  obtain ⟨A', c', e', _, hs⟩ := s7.sts
  injection e' with e1' e2' e3'
  exact ⟨⟨hw.s, hw.f0, hw.f1, hw.l0, hw.l1, hw.e, hw.b, h4, h6, hw.c⟩, e1 ▸ hi, e1' ▸ hs, i7, s7⟩
def MadeR (r : R) (w : World) (e : Ending) (w' : World) : Prop := ∃ g, e = .returned (.tuple #[.pointer (some ⟨g, 0, none⟩), .bool true]) ∧ MapAt w' w.heap.size g r.p (pls r.p) ∧ Below w.heap.size w w'
end Pl
set_option maxHeartbeats 4000000 in
set_option maxRecDepth 20000 in
theorem made_right (r : Pl.R) (B : Nat) (w : World) (hp : Pl.PlanIn w r) (hf : Pl.fewP r.p = true) (hr : Pl.right r.p = true) :
    Calls Tryd.prog 18 #[Pl.pv r] w (Pl.MadeR r w) := by
  have HWF := Lib.hid hp.wf
  have HE := Lib.hid hp.e
  have HB := Lib.hid hp.b
  have HWB := Lib.hid hp.wb
  have hne := hp.ne
  have hnb := hp.nb
  have HNE := Lib.hid hne
  have HNB := Lib.hid hnb
  have HRT := Lib.hid hr
  have hfw : r.p.ex.length ≤ 200 ∧ r.p.bl.length ≤ 200 := by simp [Pl.fewP] at hf; exact ⟨hf.1.2, hf.2⟩
  obtain ⟨hf1, hf2⟩ := hfw
  have hf1' : r.p.ex.length ≤ 10000 := by omega
  have hf2' : r.p.bl.length ≤ 10000 := by omega
  have e0 : Pl.pv r = .agg (Pl.enc r).toArray := rfl
  rw [e0]
  clear e0 hp hf hr hne hnb
  go_enter Tryd.func18, Tryd.ntmps18
  go_wp2_with (first
    | ((refine Rw.wpList_box rfl 32 _ rfl (Pl.enc r) rfl ?_; intro w1 K1 b1 z1; have HB1 := Lib.hid b1; have HK1 := Lib.hid K1; have hz1 : w.heap.size < w1.heap.size := (by omega); clear z1))
    | (refine wpList_load_mid rfl 32 _ rfl w.heap.size 0 rfl (Pl.enc r) _ HK1.out.range Pl.uP Pl.rP Pl.iP ?_)
    | (refine Rw.wpList_alloc rfl 32 rfl [.int .i64 0, .int .i64 0, .string ⟨#[]⟩, .slice none 0 0, .slice none 0 0] Pl.zPlan ?_; intro w2 K2 b2 z2; have hz2 : w1.heap.size < w2.heap.size := (by omega); clear z2)
    | (refine Rw.wpList_store_whole rfl 32 _ _ rfl w1.heap.size rfl (Pl.enc r) rfl _ _ K2 Pl.iP rfl (Pl.enc_one r) ?_; intro w3 K3 f3; have b13 : Below w1.heap.size w1 w3 := b2.trans (f3.below b2.size (fun k hk => Nat.le_of_eq hk.symm)); have HB13 := Lib.hid b13; have HK3 := Lib.hid K3; have hz3 : w1.heap.size < w3.heap.size := K3.lt; have KA := (HK1.out.below' b13); have a3 : (w3.alloc (.cells #[] 3)).cell? ⟨w.heap.size, 3, none⟩ = some (.slice r.eA r.p.ex.length r.ec) := ((KA.below' ((Below.refl _ _).alloc (Nat.le_refl _) _)).cell 3).trans rfl; have ba : Below w3.heap.size w3 (w3.alloc (.cells #[] 3)) := (Below.refl _ _).alloc (Nat.le_refl _) _; have HBa := Lib.hid ba; have HEa := Lib.hid ((HE.out.below HB1.out (Nat.le_refl _)).below (b13.trans (ba.mono b13.size)) (Nat.le_of_lt hz1)); have HOa := Lib.hid (Pl.OwnI.empty w3 (w1.heap.size + 1) hz3); have hsa : w1.heap.size + 1 ≤ (w3.alloc (.cells #[] 3)).heap.size := Nat.le_trans hz3 ba.size; clear K2 b2 f3 b13 K3 ba)
    | (refine Rw.wpList_appI rfl (.tmp 10) (.tmp 12) rfl (w1.heap.size + 1) w3.heap.size w.heap.size r.p.ex.length r.ec r.p.ex rfl HOa.out r.eA rfl rfl HNE.out HEa.out hf1' hsa ?_; intro A4 c4 w4 HO4 HC4 HF4 HB4; have K4 : Rw.Blk w4 w1.heap.size 32 (Pl.enc r) := (HK3.out.below' HBa.out).kept (HF4.out _ (Nat.lt_of_lt_of_le hz3 HBa.out.size) (Nat.ne_of_lt hz3)); have HK4 := Lib.hid K4; have hz34 := HBa.out.size; have hz4 := HB4.out.size; clear K4)
    | (refine Rw.wpList_store_one rfl 29 (.tmp 14) (.tmp 13) rfl w1.heap.size 3 rfl _ rfl rfl _ _ HK4.out Pl.iSlI (by simp [Pl.enc]) rfl ?_; intro w5 K5 f5; have HK5 : Hid (Rw.Blk w5 w1.heap.size 32 (Pl.enc ⟨r.p, A4, c4, r.bA, r.bc⟩)) := K5; have HF5 := Lib.hid f5; have b15 : Below w1.heap.size w1 w5 := (HB13.out.trans (HBa.out.mono HB13.out.size)).trans ((HB4.out.mono (Nat.le_succ _)).trans (f5.below (by omega) (fun k hk => Nat.le_of_eq hk.symm))); have HB15 := Lib.hid b15; have KC := HK1.out.below' b15; have b3c : (w5.alloc (.cells #[] 23)).cell? ⟨w.heap.size, 4, none⟩ = some (.slice r.bA r.p.bl.length r.bc) := ((KC.below' ((Below.refl _ _).alloc (Nat.le_refl _) _)).cell 4).trans rfl; have bc : Below w5.heap.size w5 (w5.alloc (.cells #[] 23)) := (Below.refl _ _).alloc (Nat.le_refl _) _; have HBc := Lib.hid bc; have HBk := Lib.hid ((HB.out.below HB1.out (Nat.le_refl _)).below (b15.trans (bc.mono b15.size)) (Nat.le_of_lt hz1)); have hz5 : w1.heap.size < w5.heap.size := K5.lt; have HOc := Lib.hid (Pl.OwnS.empty w5 (w1.heap.size + 1) hz5); have hsc : w1.heap.size + 1 ≤ (w5.alloc (.cells #[] 23)).heap.size := Nat.le_trans hz5 bc.size; clear K5 f5 b15 bc KC)
    | (refine Rw.wpList_appL rfl (.tmp 15) (.tmp 17) rfl (w1.heap.size + 1) w5.heap.size w.heap.size r.p.bl.length r.bc r.p.bl rfl HOc.out r.bA rfl rfl HNB.out HBk.out hf2' hsc ?_; intro A6 c6 w6 HO6 HC6 HF6 HB6; have K6 : Rw.Blk w6 w1.heap.size 32 (Pl.enc ⟨r.p, A4, c4, r.bA, r.bc⟩) := (HK5.out.below' HBc.out).kept (HF6.out _ (Nat.lt_of_lt_of_le hz5 HBc.out.size) (Nat.ne_of_lt hz5)); have HK6 := Lib.hid K6; have hz56 := HBc.out.size; have hz6 := HB6.out.size; clear K6)
    | (refine Rw.wpList_store_one rfl 30 (.tmp 19) (.tmp 18) rfl w1.heap.size 4 rfl _ rfl rfl _ _ HK6.out Pl.iSl (by simp [Pl.enc]) rfl ?_; intro w7 K7 f7; have HK7 : Hid (Rw.Blk w7 w1.heap.size 32 (Pl.enc ⟨r.p, A4, c4, A6, c6⟩)) := K7; have HF7 := Lib.hid f7; have b17 : Below w1.heap.size w1 w7 := (HB15.out.trans (HBc.out.mono HB15.out.size)).trans ((HB6.out.mono (Nat.le_succ _)).trans (f7.below (by omega) (fun k hk => Nat.le_of_eq hk.symm))); have HB17 := Lib.hid b17; have hz7 := f7.size; clear K7 f7 b17)
    | (refine wpList_load_mid rfl 32 _ rfl w1.heap.size 0 rfl (Pl.enc ⟨r.p, A4, c4, A6, c6⟩) _ HK7.out.range Pl.uP Pl.rP Pl.iP ?_)
    | (go_at_call 16; refine (new_right ⟨r.p, A4, c4, A6, c6⟩ w7.heap.size w7 ?_ ?_ ?_ (Nat.le_refl _) HRT.out).mono ?_; (exact (Pl.MadeIn.of HWF.out HC4.out HC6.out HO4.out HO6.out HF5.out HF6.out HF7.out hz5 hz6 HF5.out.size).wf); (exact (Pl.MadeIn.of HWF.out HC4.out HC6.out HO4.out HO6.out HF5.out HF6.out HF7.out hz5 hz6 HF5.out.size).ei); (exact (Pl.MadeIn.of HWF.out HC4.out HC6.out HO4.out HO6.out HF5.out HF6.out HF7.out hz5 hz6 HF5.out.size).bs); rintro e w8 ⟨g, rfl, hm8, hb8⟩; have HM8 := Lib.hid hm8; have HB8 := Lib.hid hb8; clear hm8 hb8))
  have MI := Lib.hid (Pl.MadeIn.of HWF.out HC4.out HC6.out HO4.out HO6.out HF5.out HF6.out HF7.out hz5 hz6 HF5.out.size)
  have HOI : Hid (w8.ownsRow (w1.heap.size + 1) 3 1 (.slice A4 r.p.ex.length c4) r.p.ex.length (Pl.cellsI r.p.ex)) := MI.out.oi.below (fun k _ hk => HB8.out.block k hk)
  have HOS : Hid (w8.ownsRow (w1.heap.size + 1) 23 2 (.slice A6 r.p.bl.length c6) r.p.bl.length (Pl.flat r.p.bl)) := MI.out.os.below HB8.out
  have H4lt : Hid (∀ k, (Value.slice A4 r.p.ex.length c4).ownBlock = some k → w1.heap.size + 1 ≤ k ∧ k < w7.heap.size) := fun k hk => ⟨(Rw.own_ty MI.out.oi k hk).1, (Rw.own_ty MI.out.oi k hk).2.1⟩
  have H6lt : Hid (∀ k, (Value.slice A6 r.p.bl.length c6).ownBlock = some k → w1.heap.size + 1 ≤ k ∧ k < w7.heap.size) := fun k hk => ⟨(Rw.own_ty MI.out.os k hk).1, (Rw.own_ty MI.out.os k hk).2.1⟩
  have HNE2 := Lib.hid (Rw.own_ne HOS.out HOI.out (by decide))
  have HK8 := Lib.hid (HK7.out.below' HB8.out)
  have hz8 := HB8.out.size
  have hbw : w.heap.size ≤ w7.heap.size := by have := HB17.out.size; omega
  have HBW8 : Hid (Below w.heap.size w w8) := HB1.out.trans ((HB17.out.mono (Nat.le_of_lt hz1)).trans (HB8.out.mono hbw))
  clear HWF HC4 HC6 HO4 HO6 HF5 HF6 HF7 MI HB8 HK7 HB17 HB1 HK1 HB13 HK3 HBa HEa HOa HF4 HB4 HK4 HK5 HB15 HBc HBk HOc HB6 HK6 HE HB HWB a3 b3c KA
  generalize hn1 : r.p.ex.length = n1 at *
  generalize hn2 : r.p.bl.length = n2 at *
  have HKc : Hid (Rw.Blk w8 w1.heap.size 32 [.int .i64 r.p.fr, .int .i64 r.p.la, .string r.p.lt, .slice A4 n1 c4, .slice A6 n2 c6]) := by have := HK8.out; unfold Pl.enc at this; simp only [hn1, hn2] at this; exact this
  clear HK8 hn1 hn2
  go_loopw [7] (fun i wr => ∃ (k : Nat) (xs : List Value), k ≤ n1 ∧ i = .int .i64 k ∧ Hid (wr.ownsRow (w1.heap.size + 1) 3 1 (.slice A4 n1 c4) n1 xs) ∧ Hid (Rw.Fr (fun b => (Value.slice A4 n1 c4).ownBlock = some b) w8 wr)) (fun i _ => n1 - (intOf i).toNat)
  case atStart => exact ⟨0, _, by omega, rfl, HOI, Rw.Fr.refl _ _⟩
  case round =>
    obtain ⟨wA, eA⟩ : ∃ x, x = wr := ⟨_, rfl⟩
    subst eA
    obtain ⟨k, xs, hk, rfl, HO, HFA⟩ := hrel
    have HKA : Hid (Rw.Blk wA w1.heap.size 32 [.int .i64 r.p.fr, .int .i64 r.p.la, .string r.p.lt, .slice A4 n1 c4, .slice A6 n2 c6]) := HKc.out.kept (HFA.out.block _ HKc.out.lt (fun e => by have := (H4lt.out _ e).1; omega))
    have p3 : wA.cell? ⟨w1.heap.size, 3, none⟩ = some (.slice A4 n1 c4) := (HKA.out.cell 3).trans rfl
    have p4 : wA.cell? ⟨w1.heap.size, 4, none⟩ = some (.slice A6 n2 c6) := (HKA.out.cell 4).trans rfl
    by_cases hlt : k < n1
    · obtain ⟨b, v, eA4, hb, hbb, hc, hfz⟩ := Rw.own_at HO.out k (by omega) (by omega)
      subst eA4
      have HN : Hid ((wA.setCell ⟨b, k, none⟩ (.int .i64 99)).ownsRow (w1.heap.size + 1) 3 1 (.slice (some ⟨b, 0, none⟩) n1 c4) n1 (xs.set k (.int .i64 99))) := (HO.out.stored k (.int .i64 99)).1
      have HFN : Hid (Rw.Fr (fun x => (Value.slice (some ⟨b, 0, none⟩) n1 c4).ownBlock = some x) w8 (wA.setCell ⟨b, k, none⟩ (.int .i64 99))) := HFA.out.trans (G := fun x => (Value.slice (some ⟨b, 0, none⟩) n1 c4).ownBlock = some x) (by
        have hg := (HO.out.stored k (.int .i64 99)).2
        exact ⟨hg.os, hg.tape, hg.output, hg.size, fun x hx hne => hg.block x hx (fun e => hne e.symm)⟩) (fun _ _ h => h)
      go_wp2
      go_roundw
      case rel => exact ⟨k + 1, _, by omega, by go_num, HN, HFN⟩
      case measure => simp [intOf]; omega
    · have HOSA : Hid (wA.ownsRow (w1.heap.size + 1) 23 2 (.slice A6 n2 c6) n2 (Pl.flat r.p.bl)) := Rw.own_kept HOS.out (fun x hx => HFA.out.block x (Rw.own_ty HOS.out x hx).2.1 (HNE2.out x hx))
      clear HO
      go_wp2
      go_loopw [8] (fun i wr => ∃ (k : Nat) (xs : List Value), k ≤ n2 ∧ i = .int .i64 k ∧ Hid (wr.ownsRow (w1.heap.size + 1) 23 2 (.slice A6 n2 c6) n2 xs) ∧ Hid (Rw.Fr (fun b => (Value.slice A6 n2 c6).ownBlock = some b) wA wr)) (fun i _ => n2 - (intOf i).toNat)
      case atStart => exact ⟨0, _, by omega, rfl, HOSA, Rw.Fr.refl _ _⟩
      case round =>
        obtain ⟨wB, eB⟩ : ∃ x, x = wr := ⟨_, rfl⟩
        subst eB
        obtain ⟨k2, xs2, hk2, rfl, HO2, HFB⟩ := hrel
        have HKB := HKA.out.kept (HFB.out.block _ HKA.out.lt (fun e => by have := (H6lt.out _ e).1; omega))
        have p5 : wB.cell? ⟨w1.heap.size, 4, none⟩ = some (.slice A6 n2 c6) := (HKB.cell 4).trans rfl
        clear HKB
        by_cases hlt2 : k2 < n2
        · obtain ⟨b, v, eA6, hb, hbb, hc, hfz⟩ := Rw.own_at HO2.out (k2 * 2) (by omega) (by omega)
          subst eA6
          have HN : Hid ((wB.setCell ⟨b, k2 * 2, none⟩ (.int .i64 99)).ownsRow (w1.heap.size + 1) 23 2 (.slice (some ⟨b, 0, none⟩) n2 c6) n2 (xs2.set (k2 * 2) (.int .i64 99))) := (HO2.out.stored (k2 * 2) (.int .i64 99)).1
          have HFN : Hid (Rw.Fr (fun x => (Value.slice (some ⟨b, 0, none⟩) n2 c6).ownBlock = some x) wA (wB.setCell ⟨b, k2 * 2, none⟩ (.int .i64 99))) := HFB.out.trans (G := fun x => (Value.slice (some ⟨b, 0, none⟩) n2 c6).ownBlock = some x) (by
            have hg := (HO2.out.stored (k2 * 2) (.int .i64 99)).2
            exact ⟨hg.os, hg.tape, hg.output, hg.size, fun x hx hne => hg.block x hx (fun e => hne e.symm)⟩) (fun _ _ h => h)
          go_wp2
          go_roundw
          case rel => exact ⟨k2 + 1, _, by omega, by go_num, HN, HFN⟩
          case measure => simp [intOf]; omega
        · have HBX : Hid (Below w.heap.size w wB) := HBW8.out.trans ((HFA.out.below (by omega) (fun x hx => by have := (H4lt.out x hx).1; omega)).trans (HFB.out.below (by have := HFA.out.size; omega) (fun x hx => by have := (H6lt.out x hx).1; omega)))
          go_wp2
          go_ret2
          exact ⟨g, rfl, (HM8.out.kept (fun k h1 h2 => (HFB.out.block k (Nat.lt_of_lt_of_le h2 HFA.out.size) (fun e => by have := (H6lt.out k e).2; omega)).trans (HFA.out.block k h2 (fun e => by have := (H4lt.out k e).2; omega)))).low hbw, HBX.out⟩

set_option maxHeartbeats 4000000 in
set_option maxRecDepth 20000 in
theorem made_wrong (r : Pl.R) (B : Nat) (w : World) (hp : Pl.PlanIn w r) (hf : Pl.fewP r.p = true) (hr : Pl.right r.p = false) :
    Calls Tryd.prog 18 #[Pl.pv r] w fun e w' => e = .returned (.tuple #[.pointer none, .bool false]) ∧ Below w.heap.size w w' := by
  have HWF := Lib.hid hp.wf
  have HE := Lib.hid hp.e
  have HB := Lib.hid hp.b
  have HWB := Lib.hid hp.wb
  have hne := hp.ne
  have hnb := hp.nb
  have HNE := Lib.hid hne
  have HNB := Lib.hid hnb
  have HRT := Lib.hid hr
  have hfw : r.p.ex.length ≤ 200 ∧ r.p.bl.length ≤ 200 := by simp [Pl.fewP] at hf; exact ⟨hf.1.2, hf.2⟩
  obtain ⟨hf1, hf2⟩ := hfw
  have hf1' : r.p.ex.length ≤ 10000 := by omega
  have hf2' : r.p.bl.length ≤ 10000 := by omega
  have e0 : Pl.pv r = .agg (Pl.enc r).toArray := rfl
  rw [e0]
  clear e0 hp hf hr hne hnb
  go_enter Tryd.func18, Tryd.ntmps18
  go_wp2_with (first
    | ((refine Rw.wpList_box rfl 32 _ rfl (Pl.enc r) rfl ?_; intro w1 K1 b1 z1; have HB1 := Lib.hid b1; have HK1 := Lib.hid K1; have hz1 : w.heap.size < w1.heap.size := (by omega); clear z1))
    | (refine wpList_load_mid rfl 32 _ rfl w.heap.size 0 rfl (Pl.enc r) _ HK1.out.range Pl.uP Pl.rP Pl.iP ?_)
    | (refine Rw.wpList_alloc rfl 32 rfl [.int .i64 0, .int .i64 0, .string ⟨#[]⟩, .slice none 0 0, .slice none 0 0] Pl.zPlan ?_; intro w2 K2 b2 z2; have hz2 : w1.heap.size < w2.heap.size := (by omega); clear z2)
    | (refine Rw.wpList_store_whole rfl 32 _ _ rfl w1.heap.size rfl (Pl.enc r) rfl _ _ K2 Pl.iP rfl (Pl.enc_one r) ?_; intro w3 K3 f3; have b13 : Below w1.heap.size w1 w3 := b2.trans (f3.below b2.size (fun k hk => Nat.le_of_eq hk.symm)); have HB13 := Lib.hid b13; have HK3 := Lib.hid K3; have hz3 : w1.heap.size < w3.heap.size := K3.lt; have KA := (HK1.out.below' b13); have a3 : (w3.alloc (.cells #[] 3)).cell? ⟨w.heap.size, 3, none⟩ = some (.slice r.eA r.p.ex.length r.ec) := ((KA.below' ((Below.refl _ _).alloc (Nat.le_refl _) _)).cell 3).trans rfl; have ba : Below w3.heap.size w3 (w3.alloc (.cells #[] 3)) := (Below.refl _ _).alloc (Nat.le_refl _) _; have HBa := Lib.hid ba; have HEa := Lib.hid ((HE.out.below HB1.out (Nat.le_refl _)).below (b13.trans (ba.mono b13.size)) (Nat.le_of_lt hz1)); have HOa := Lib.hid (Pl.OwnI.empty w3 (w1.heap.size + 1) hz3); have hsa : w1.heap.size + 1 ≤ (w3.alloc (.cells #[] 3)).heap.size := Nat.le_trans hz3 ba.size; clear K2 b2 f3 b13 K3 ba)
    | (refine Rw.wpList_appI rfl (.tmp 10) (.tmp 12) rfl (w1.heap.size + 1) w3.heap.size w.heap.size r.p.ex.length r.ec r.p.ex rfl HOa.out r.eA rfl rfl HNE.out HEa.out hf1' hsa ?_; intro A4 c4 w4 HO4 HC4 HF4 HB4; have K4 : Rw.Blk w4 w1.heap.size 32 (Pl.enc r) := (HK3.out.below' HBa.out).kept (HF4.out _ (Nat.lt_of_lt_of_le hz3 HBa.out.size) (Nat.ne_of_lt hz3)); have HK4 := Lib.hid K4; have hz34 := HBa.out.size; have hz4 := HB4.out.size; clear K4)
    | (refine Rw.wpList_store_one rfl 29 (.tmp 14) (.tmp 13) rfl w1.heap.size 3 rfl _ rfl rfl _ _ HK4.out Pl.iSlI (by simp [Pl.enc]) rfl ?_; intro w5 K5 f5; have HK5 : Hid (Rw.Blk w5 w1.heap.size 32 (Pl.enc ⟨r.p, A4, c4, r.bA, r.bc⟩)) := K5; have HF5 := Lib.hid f5; have b15 : Below w1.heap.size w1 w5 := (HB13.out.trans (HBa.out.mono HB13.out.size)).trans ((HB4.out.mono (Nat.le_succ _)).trans (f5.below (by omega) (fun k hk => Nat.le_of_eq hk.symm))); have HB15 := Lib.hid b15; have KC := HK1.out.below' b15; have b3c : (w5.alloc (.cells #[] 23)).cell? ⟨w.heap.size, 4, none⟩ = some (.slice r.bA r.p.bl.length r.bc) := ((KC.below' ((Below.refl _ _).alloc (Nat.le_refl _) _)).cell 4).trans rfl; have bc : Below w5.heap.size w5 (w5.alloc (.cells #[] 23)) := (Below.refl _ _).alloc (Nat.le_refl _) _; have HBc := Lib.hid bc; have HBk := Lib.hid ((HB.out.below HB1.out (Nat.le_refl _)).below (b15.trans (bc.mono b15.size)) (Nat.le_of_lt hz1)); have hz5 : w1.heap.size < w5.heap.size := K5.lt; have HOc := Lib.hid (Pl.OwnS.empty w5 (w1.heap.size + 1) hz5); have hsc : w1.heap.size + 1 ≤ (w5.alloc (.cells #[] 23)).heap.size := Nat.le_trans hz5 bc.size; clear K5 f5 b15 bc KC)
    | (refine Rw.wpList_appL rfl (.tmp 15) (.tmp 17) rfl (w1.heap.size + 1) w5.heap.size w.heap.size r.p.bl.length r.bc r.p.bl rfl HOc.out r.bA rfl rfl HNB.out HBk.out hf2' hsc ?_; intro A6 c6 w6 HO6 HC6 HF6 HB6; have K6 : Rw.Blk w6 w1.heap.size 32 (Pl.enc ⟨r.p, A4, c4, r.bA, r.bc⟩) := (HK5.out.below' HBc.out).kept (HF6.out _ (Nat.lt_of_lt_of_le hz5 HBc.out.size) (Nat.ne_of_lt hz5)); have HK6 := Lib.hid K6; have hz56 := HBc.out.size; have hz6 := HB6.out.size; clear K6)
    | (refine Rw.wpList_store_one rfl 30 (.tmp 19) (.tmp 18) rfl w1.heap.size 4 rfl _ rfl rfl _ _ HK6.out Pl.iSl (by simp [Pl.enc]) rfl ?_; intro w7 K7 f7; have HK7 : Hid (Rw.Blk w7 w1.heap.size 32 (Pl.enc ⟨r.p, A4, c4, A6, c6⟩)) := K7; have HF7 := Lib.hid f7; have b17 : Below w1.heap.size w1 w7 := (HB15.out.trans (HBc.out.mono HB15.out.size)).trans ((HB6.out.mono (Nat.le_succ _)).trans (f7.below (by omega) (fun k hk => Nat.le_of_eq hk.symm))); have HB17 := Lib.hid b17; have hz7 := f7.size; clear K7 f7 b17)
    | (refine wpList_load_mid rfl 32 _ rfl w1.heap.size 0 rfl (Pl.enc ⟨r.p, A4, c4, A6, c6⟩) _ HK7.out.range Pl.uP Pl.rP Pl.iP ?_)
    | (go_at_call 16; refine (new_wrong ⟨r.p, A4, c4, A6, c6⟩ w7.heap.size w7 ?_ ?_ ?_ (Nat.le_refl _) HRT.out).mono ?_; (exact (Pl.MadeIn.of HWF.out HC4.out HC6.out HO4.out HO6.out HF5.out HF6.out HF7.out hz5 hz6 HF5.out.size).wf); (exact (Pl.MadeIn.of HWF.out HC4.out HC6.out HO4.out HO6.out HF5.out HF6.out HF7.out hz5 hz6 HF5.out.size).ei); (exact (Pl.MadeIn.of HWF.out HC4.out HC6.out HO4.out HO6.out HF5.out HF6.out HF7.out hz5 hz6 HF5.out.size).bs); rintro e w8 ⟨rfl, hb8⟩; have HB8 := Lib.hid hb8; clear hb8))
  have MI := Lib.hid (Pl.MadeIn.of HWF.out HC4.out HC6.out HO4.out HO6.out HF5.out HF6.out HF7.out hz5 hz6 HF5.out.size)
  have HOI : Hid (w8.ownsRow (w1.heap.size + 1) 3 1 (.slice A4 r.p.ex.length c4) r.p.ex.length (Pl.cellsI r.p.ex)) := MI.out.oi.below (fun k _ hk => HB8.out.block k hk)
  have HOS : Hid (w8.ownsRow (w1.heap.size + 1) 23 2 (.slice A6 r.p.bl.length c6) r.p.bl.length (Pl.flat r.p.bl)) := MI.out.os.below HB8.out
  have H4lt : Hid (∀ k, (Value.slice A4 r.p.ex.length c4).ownBlock = some k → w1.heap.size + 1 ≤ k ∧ k < w7.heap.size) := fun k hk => ⟨(Rw.own_ty MI.out.oi k hk).1, (Rw.own_ty MI.out.oi k hk).2.1⟩
  have H6lt : Hid (∀ k, (Value.slice A6 r.p.bl.length c6).ownBlock = some k → w1.heap.size + 1 ≤ k ∧ k < w7.heap.size) := fun k hk => ⟨(Rw.own_ty MI.out.os k hk).1, (Rw.own_ty MI.out.os k hk).2.1⟩
  have HNE2 := Lib.hid (Rw.own_ne HOS.out HOI.out (by decide))
  have HK8 := Lib.hid (HK7.out.below' HB8.out)
  have hz8 := HB8.out.size
  have hbw : w.heap.size ≤ w7.heap.size := by have := HB17.out.size; omega
  have HBW8 : Hid (Below w.heap.size w w8) := HB1.out.trans ((HB17.out.mono (Nat.le_of_lt hz1)).trans (HB8.out.mono hbw))
  clear HWF HC4 HC6 HO4 HO6 HF5 HF6 HF7 MI HB8 HK7 HB17 HB1 HK1 HB13 HK3 HBa HEa HOa HF4 HB4 HK4 HK5 HB15 HBc HBk HOc HB6 HK6 HE HB HWB a3 b3c KA
  generalize hn1 : r.p.ex.length = n1 at *
  generalize hn2 : r.p.bl.length = n2 at *
  have HKc : Hid (Rw.Blk w8 w1.heap.size 32 [.int .i64 r.p.fr, .int .i64 r.p.la, .string r.p.lt, .slice A4 n1 c4, .slice A6 n2 c6]) := by have := HK8.out; unfold Pl.enc at this; simp only [hn1, hn2] at this; exact this
  clear HK8 hn1 hn2
  go_loopw [7] (fun i wr => ∃ (k : Nat) (xs : List Value), k ≤ n1 ∧ i = .int .i64 k ∧ Hid (wr.ownsRow (w1.heap.size + 1) 3 1 (.slice A4 n1 c4) n1 xs) ∧ Hid (Rw.Fr (fun b => (Value.slice A4 n1 c4).ownBlock = some b) w8 wr)) (fun i _ => n1 - (intOf i).toNat)
  case atStart => exact ⟨0, _, by omega, rfl, HOI, Rw.Fr.refl _ _⟩
  case round =>
    obtain ⟨wA, eA⟩ : ∃ x, x = wr := ⟨_, rfl⟩
    subst eA
    obtain ⟨k, xs, hk, rfl, HO, HFA⟩ := hrel
    have HKA : Hid (Rw.Blk wA w1.heap.size 32 [.int .i64 r.p.fr, .int .i64 r.p.la, .string r.p.lt, .slice A4 n1 c4, .slice A6 n2 c6]) := HKc.out.kept (HFA.out.block _ HKc.out.lt (fun e => by have := (H4lt.out _ e).1; omega))
    have p3 : wA.cell? ⟨w1.heap.size, 3, none⟩ = some (.slice A4 n1 c4) := (HKA.out.cell 3).trans rfl
    have p4 : wA.cell? ⟨w1.heap.size, 4, none⟩ = some (.slice A6 n2 c6) := (HKA.out.cell 4).trans rfl
    by_cases hlt : k < n1
    · obtain ⟨b, v, eA4, hb, hbb, hc, hfz⟩ := Rw.own_at HO.out k (by omega) (by omega)
      subst eA4
      have HN : Hid ((wA.setCell ⟨b, k, none⟩ (.int .i64 99)).ownsRow (w1.heap.size + 1) 3 1 (.slice (some ⟨b, 0, none⟩) n1 c4) n1 (xs.set k (.int .i64 99))) := (HO.out.stored k (.int .i64 99)).1
      have HFN : Hid (Rw.Fr (fun x => (Value.slice (some ⟨b, 0, none⟩) n1 c4).ownBlock = some x) w8 (wA.setCell ⟨b, k, none⟩ (.int .i64 99))) := HFA.out.trans (G := fun x => (Value.slice (some ⟨b, 0, none⟩) n1 c4).ownBlock = some x) (by
        have hg := (HO.out.stored k (.int .i64 99)).2
        exact ⟨hg.os, hg.tape, hg.output, hg.size, fun x hx hne => hg.block x hx (fun e => hne e.symm)⟩) (fun _ _ h => h)
      go_wp2
      go_roundw
      case rel => exact ⟨k + 1, _, by omega, by go_num, HN, HFN⟩
      case measure => simp [intOf]; omega
    · have HOSA : Hid (wA.ownsRow (w1.heap.size + 1) 23 2 (.slice A6 n2 c6) n2 (Pl.flat r.p.bl)) := Rw.own_kept HOS.out (fun x hx => HFA.out.block x (Rw.own_ty HOS.out x hx).2.1 (HNE2.out x hx))
      clear HO
      go_wp2
      go_loopw [8] (fun i wr => ∃ (k : Nat) (xs : List Value), k ≤ n2 ∧ i = .int .i64 k ∧ Hid (wr.ownsRow (w1.heap.size + 1) 23 2 (.slice A6 n2 c6) n2 xs) ∧ Hid (Rw.Fr (fun b => (Value.slice A6 n2 c6).ownBlock = some b) wA wr)) (fun i _ => n2 - (intOf i).toNat)
      case atStart => exact ⟨0, _, by omega, rfl, HOSA, Rw.Fr.refl _ _⟩
      case round =>
        obtain ⟨wB, eB⟩ : ∃ x, x = wr := ⟨_, rfl⟩
        subst eB
        obtain ⟨k2, xs2, hk2, rfl, HO2, HFB⟩ := hrel
        have HKB := HKA.out.kept (HFB.out.block _ HKA.out.lt (fun e => by have := (H6lt.out _ e).1; omega))
        have p5 : wB.cell? ⟨w1.heap.size, 4, none⟩ = some (.slice A6 n2 c6) := (HKB.cell 4).trans rfl
        clear HKB
        by_cases hlt2 : k2 < n2
        · obtain ⟨b, v, eA6, hb, hbb, hc, hfz⟩ := Rw.own_at HO2.out (k2 * 2) (by omega) (by omega)
          subst eA6
          have HN : Hid ((wB.setCell ⟨b, k2 * 2, none⟩ (.int .i64 99)).ownsRow (w1.heap.size + 1) 23 2 (.slice (some ⟨b, 0, none⟩) n2 c6) n2 (xs2.set (k2 * 2) (.int .i64 99))) := (HO2.out.stored (k2 * 2) (.int .i64 99)).1
          have HFN : Hid (Rw.Fr (fun x => (Value.slice (some ⟨b, 0, none⟩) n2 c6).ownBlock = some x) wA (wB.setCell ⟨b, k2 * 2, none⟩ (.int .i64 99))) := HFB.out.trans (G := fun x => (Value.slice (some ⟨b, 0, none⟩) n2 c6).ownBlock = some x) (by
            have hg := (HO2.out.stored (k2 * 2) (.int .i64 99)).2
            exact ⟨hg.os, hg.tape, hg.output, hg.size, fun x hx hne => hg.block x hx (fun e => hne e.symm)⟩) (fun _ _ h => h)
          go_wp2
          go_roundw
          case rel => exact ⟨k2 + 1, _, by omega, by go_num, HN, HFN⟩
          case measure => simp [intOf]; omega
        · have HBX : Hid (Below w.heap.size w wB) := HBW8.out.trans ((HFA.out.below (by omega) (fun x hx => by have := (H4lt.out x hx).1; omega)).trans (HFB.out.below (by have := HFA.out.size; omega) (fun x hx => by have := (H6lt.out x hx).1; omega)))
          go_wp2
          go_ret2
          exact ⟨rfl, HBX.out⟩

end Go.Proofs.YtonfkonjkgalhaaDoor
