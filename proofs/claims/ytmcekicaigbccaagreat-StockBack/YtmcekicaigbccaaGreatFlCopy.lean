/- Contracts of slices.Clone at classes, of alone and of copies. -/
import Derived.Test.YtmcekicaigbccaaGreatFlSort
import Derived.Test.YtmcekicaigbccaaGreatFlBs
namespace Go.Proofs.YtmcekicaigbccaaGreat
open Go.RowKit Go.Sort Go.Shelf
set_option linter.unusedVariables false

noncomputable def clsI : TypeInfo := (Tryz.prog.info? 59).get (by kernel_rfl)
/-- A clone of classes is new. -/
def Fl.CloneIs (w : World) (l : List (Int × Int)) (e : Ending) (w' : World) : Prop :=
  ∃ A cap, e = .returned (.slice A l.length cap) ∧ Fl.CNew w' w.heap.size w'.heap.size A l ∧ l.length ≤ cap ∧ (A = none → cap = 0) ∧ (∀ a, A = some a → a.spot = none) ∧ Below w.heap.size w w'
theorem clone_any (A : Option Addr) (cap : Nat) (l : List (Int × Int)) (B : Nat) (w : World) (h : Fl.Cls w B A l) (hl : l.length ≤ 3000) (hn : l.length ≤ cap) (hc : A = none → cap = 0) (hs : ∀ a, A = some a → a.spot = none) :
    Calls Tryz.prog 85 #[.slice A l.length cap] w (Fl.CloneIs w l) := by
  cases A with
  | none =>
    have h0 := hc rfl
    have h1 : l = [] := List.eq_nil_of_length_eq_zero (by omega)
    subst h0 h1
    exact (Go.Proofs.AnyE.slices_Clone_nil Tryz.cloneC 0 0 w).mono fun e w' ⟨he, hw⟩ => ⟨none, 0, he, fun h => absurd h (by decide), by simp, fun _ => rfl, (fun _ h => by cases h), hw ▸ Below.refl _ _⟩
  | some a =>
    obtain ⟨b, off, spot⟩ := a
    have := hs _ rfl
    simp only at this
    subst this
    refine (Go.Proofs.AnyE.slices_Clone Tryz.cloneC clsI (.agg #[.int .u8 0, .int .i64 0]) 2 16 (by kernel_rfl) (by kernel_rfl) (by kernel_rfl) (by kernel_rfl) rfl (by decide) Tryz.sizeOf59 b off l.length cap (Fl.cc l) w (Fl.cc_len l) (by unfold maxLen; omega) (by omega) (h.cells rfl) (Fl.cc_one l)).mono fun e w' ⟨v', he, hown, hne, hb⟩ => ?_
    obtain ⟨_, ⟨hv, h0⟩ | ⟨g, cap', cur, hv, hg, hh, hcap, _, hsz, htk⟩⟩ := hown
    · exact absurd hv hne
    · refine ⟨some ⟨g, 0, none⟩, cap', by rw [he, hv], fun hl0 => ⟨g, cur, rfl, hg, Rw.lt_of_some hh, hh, htk⟩, hcap, (fun h => by cases h), (fun a h => by injection h with h; subst h; rfl), hb⟩
/-- A flight with new classes. -/
def Fl.AloneIs (w : World) (f : Fl.F) (e : Ending) (w' : World) : Prop :=
  ∃ A cap, e = .returned (Fl.fv ⟨f, A, cap⟩) ∧ Fl.CNew w' w.heap.size w'.heap.size A f.cls ∧ f.cls.length ≤ cap ∧ (A = none → cap = 0) ∧ (∀ a, A = some a → a.spot = none) ∧ Below w.heap.size w w'
set_option maxHeartbeats 1000000 in
theorem alone_any (r : Fl.R) (B : Nat) (w : World) (hw : Fl.Wf r) (h : Fl.Cls w B r.A r.f.cls) (hB : B ≤ w.heap.size) (hl : r.f.cls.length ≤ 3000) (hp : 0 < r.f.cls.length) :
    Calls Tryz.prog 63 #[Fl.fv r] w (Fl.AloneIs w r.f) := by
  have HC := Lib.hid (fun w' (hb : Below w.heap.size w w') => clone_any r.A r.cap r.f.cls B w' (h.below hb hB) hl hw.lc hw.nc (fun a h => hw.sp a h hp))
  clear h hw hl
  rw [← Fl.fv_enc]
  generalize hN : r.f.cls.length = nl at HC
  have HNL := Lib.hid hN
  clear hN
  go_enter Tryz.func63, Tryz.ntmps63
  go_wp2_with (first
    | (refine Rw.wpList_box rfl 62 _ rfl (Fl.enc r) rfl ?_; intro w1 K1 hb1 hz1; have hlt1 : w.heap.size < w1.heap.size := by omega
       clear hz1)
    | (refine Rw.wpList_alloc rfl 62 rfl (Fl.enc Fl.r0) Fl.zF ?_; intro w2 K2 hb2 hz2; clear hz2; have b12 := hb1.trans (hb2.mono hb1.size); have K12 := Lib.hid (K1.below' hb2); have c7 : w2.cell? ⟨w.heap.size, 7, none⟩ = some (.slice r.A nl r.cap) := (K12.out.cell 7).trans (by rw [← HNL.out]; rfl); have K22 := Lib.hid K2; clear K1 K2)
    | (go_at_call 85; refine (HC.out _ b12).mono ?_; rintro e w3 ⟨A1, cap1, rfl, HN, hcap, hnil, hsp, hb3⟩; have b13 := b12.trans (hb3.mono b12.size); have K13 := Lib.hid (K12.out.below' hb3); have K23 := Lib.hid (K22.out.below' hb3); have HNW := Lib.hid HN; clear HN)
    | (refine Rw.wpList_store_one rfl 60 _ _ rfl w.heap.size 7 rfl _ rfl rfl _ _ K13.out Fl.iC (show 7 < (Fl.enc r).length from (by decide : 7 < 9)) rfl ?_; intro w4 K4 f4; have K14 := Lib.hid (show Rw.Blk w4 w.heap.size 62 (Fl.enc ⟨r.f, A1, cap1⟩) from K4); have K24 := Lib.hid (K23.out.kept (f4.block w1.heap.size K23.out.lt (show ¬ (w1.heap.size = w.heap.size) by omega))); clear K4)
    | (refine wpList_load_mid rfl 62 _ rfl w.heap.size 0 rfl (Fl.enc ⟨r.f, A1, cap1⟩) _ K14.out.range Fl.uF Fl.rF Fl.iF ?_)
    | (refine Rw.wpList_store_whole rfl 62 _ _ rfl w1.heap.size rfl (Fl.enc ⟨r.f, A1, cap1⟩) rfl _ _ K24.out Fl.iF rfl (Fl.enc_one _) ?_; intro w5 K5 f5))
  have hc5 := K5.cell
  have b14 := b13.trans (f4.below (B := w.heap.size) b13.size (fun k hk => by have : k = w.heap.size := hk; omega))
  have b15 := b14.trans (f5.below (B := w.heap.size) b14.size (fun k hk => by have : k = w1.heap.size := hk; omega))
  have HN5 : Fl.CNew w5 w.heap.size w5.heap.size A1 r.f.cls := by
    refine (HNW.out.kept (w' := w5) fun k cur h0 h1 _ => ?_).more b12.size (Nat.le_trans f4.size f5.size)
    have hk1 := K22.out.lt
    exact (f5.block k (Nat.lt_of_lt_of_le h1 f4.size) (show ¬ (k = w1.heap.size) by omega)).trans (f4.block k h1 (show ¬ (k = w.heap.size) by omega))
  refine bodyPost_ret (v := Fl.fv ⟨r.f, A1, cap1⟩) ?_ rfl ⟨A1, cap1, rfl, HN5, hcap, hnil, hsp, b15⟩
  simp [results, Tryz.results63, go_sem, hc5, Fl.enc, Fl.fv]
end Go.Proofs.YtmcekicaigbccaaGreat
