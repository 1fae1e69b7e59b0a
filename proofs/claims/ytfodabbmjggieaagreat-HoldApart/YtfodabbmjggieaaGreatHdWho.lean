/- Contract: Who. -/
import Derived.Test.YtfodabbmjggieaaGreatHdChk
namespace Go.Proofs.YtfodabbmjggieaaGreat
open Go.RowKit Go.WideMaps
set_option linter.unusedVariables false

namespace Hd
def whoH (l : List (K × H)) (k : K) : H := (who l k).getD h0
theorem zH (w : World) : (zeroValue 39).run Tryz.prog w = .ok (.agg #[.string ⟨#[]⟩, .int .i64 0]) w := by kernel_rfl
theorem iH : (Tryz.prog.info? 39).map (·.size) = some 2 := by kernel_rfl
theorem one2 {a : ByteArray} {b : Int} : ∀ v ∈ ([.string a, .int .i64 b] : List Value), v.oneCell' = true := by
  intro v hv
  simp at hv
  rcases hv with rfl | rfl <;> rfl
theorem At.look {w W : World} {Bt p t m cap : Nat} {A : Option Addr} {rs : List Fl.R} {gs : List (Nat × Pl.P)} {l : List (K × H)} {k : K} (h : At w Bt p t m A cap rs gs l) (hk : OkK k) (hW : W.heap[m]? = w.heap[m]?) :
    (Instr.lookup 87 (.map (some m)) (pv k) true).run Tryz.prog W = .ok (.tuple #[hv (whoH l k), .bool (who l k).isSome]) W := by
  have hM := (h.map.kept hW).toL
  rcases hM.look lawP (pv_key hk) uHeld _ (zH W) with ⟨j, v, h1, hrun⟩ | ⟨h1, hrun⟩
  · have hj : j < l.length := by have := (List.getElem?_eq_some_iff.1 h1).1; simpa using this
    have h2 := (List.getElem?_eq_some_iff.1 h1).2
    simp [ent] at h2
    obtain ⟨e1, e2⟩ := h2
    have e3 := pv_inj e1
    have hm : (k, l[j].2) ∈ l := by rw [← e3]; exact List.getElem_mem hj
    have hw := who_mem h.nod hm
    rw [hrun, ← e2]
    unfold whoH
    rw [hw]
    rfl
  · have hn : who l k = none := who_non fun e he e1 => h1 _ (List.mem_map.2 ⟨e, he, rfl⟩) (by unfold ent; rw [e1])
    rw [hrun]
    unfold whoH
    rw [hn]
    rfl
end Hd
set_option maxHeartbeats 1000000 in
set_option maxRecDepth 20000 in
theorem who_any (Bt p t m : Nat) (A : Option Addr) (cap : Nat) (rs : List Fl.R) (gs : List (Nat × Pl.P)) (l : List (Hd.K × Hd.H)) (k : Hd.K) (w : World) (h : Hd.At w Bt p t m A cap rs gs l) (hk : Hd.OkK k) :
    Calls Tryz.prog 15 #[.pointer (some ⟨p, 0, none⟩), .agg #[.string k.car, .int .i64 k.num, .int .i64 k.day], .agg #[.int .i64 k.row, .int .u8 k.ltr]] w fun e w' => e = .returned (.tuple #[.agg #[.string (Hd.whoH l k).loc, .int .i64 (Hd.whoH l k).pax], .bool (Hd.who l k).isSome]) ∧ Below w.heap.size w w' := by
  have HL := Lib.hid (fun W (hb : Below w.heap.size w W) => h.look hk (hb.block m h.map.lt))
  have HP := Lib.hid h.blk
  have hpl := h.blk.lt
  clear h hk
  generalize Hd.whoH l k = n at *
  generalize (Hd.who l k).isSome = b at *
  obtain ⟨car, num, day, row, ltr⟩ := k
  obtain ⟨loc, pax⟩ := n
  unfold Hd.pv Hd.hv at HL
  simp only at HL ⊢
  go_enter Tryz.func15, Tryz.ntmps15
  go_wp2_with (first
    | (refine Rw.wpList_box rfl 35 _ rfl [.string car, .int .i64 num, .int .i64 day] rfl ?_; intro w1 K1 b1 z1; have HZ1 := Lib.hid z1; clear z1)
    | (refine Rw.wpList_box rfl 37 _ rfl [.int .i64 row, .int .u8 ltr] rfl ?_; intro w2 K2 b2 z2; have HZ2 := Lib.hid z2; clear z2)
    | (refine Rw.wpList_alloc rfl 39 rfl [.string ⟨#[]⟩, .int .i64 0] Hd.zH ?_; intro w3 K3 b3 z3; have HZ3 := Lib.hid z3; clear z3))
  have hb2 : Below w.heap.size w w2 := b1.trans (b2.mono b1.size)
  have hb3 : Below w.heap.size w w3 := hb2.trans (b3.mono hb2.size)
  have hs3 := hb3.size
  have K13 := (K1.below' b2).below' b3
  have K23 := K2.below' b3
  have c0 : w3.cell? ⟨w.heap.size, 0, none⟩ = some (.string car) := K13.cell 0
  have c1 : w3.cell? ⟨w.heap.size, 1, none⟩ = some (.int .i64 num) := K13.cell 1
  have c2 : w3.cell? ⟨w.heap.size, 2, none⟩ = some (.int .i64 day) := K13.cell 2
  have d0 : w3.cell? ⟨w1.heap.size, 0, none⟩ = some (.int .i64 row) := K23.cell 0
  have d1 : w3.cell? ⟨w1.heap.size, 1, none⟩ = some (.int .u8 ltr) := K23.cell 1
  have e0 : w3.cell? ⟨p, 2, none⟩ = some (.map (some m)) := (HP.out.below' hb3).cell 2
  have ba : Below w3.heap.size w3 (w3.alloc (.cells #[.string ⟨#[]⟩, .int .i64 0] 39)) := (Below.refl _ _).alloc (Nat.le_refl _) _
  have hrun := HL.out w3.drew hb3.drew
  have hrun2 := HL.out (w3.alloc (.cells #[.string ⟨#[]⟩, .int .i64 0] 39)).drew (hb3.trans (ba.mono hs3)).drew
  obtain ⟨c0', c1', c2', d0', d1', e0'⟩ : (w3.alloc (.cells #[.string ⟨#[]⟩, .int .i64 0] 39)).cell? ⟨w.heap.size, 0, none⟩ = some (.string car) ∧ (w3.alloc (.cells #[.string ⟨#[]⟩, .int .i64 0] 39)).cell? ⟨w.heap.size, 1, none⟩ = some (.int .i64 num) ∧ (w3.alloc (.cells #[.string ⟨#[]⟩, .int .i64 0] 39)).cell? ⟨w.heap.size, 2, none⟩ = some (.int .i64 day) ∧ (w3.alloc (.cells #[.string ⟨#[]⟩, .int .i64 0] 39)).cell? ⟨w1.heap.size, 0, none⟩ = some (.int .i64 row) ∧ (w3.alloc (.cells #[.string ⟨#[]⟩, .int .i64 0] 39)).cell? ⟨w1.heap.size, 1, none⟩ = some (.int .u8 ltr) ∧ (w3.alloc (.cells #[.string ⟨#[]⟩, .int .i64 0] 39)).cell? ⟨p, 2, none⟩ = some (.map (some m)) := by
    have k1 := K13.below' ba
    have k2 := K23.below' ba
    exact ⟨k1.cell 0, k1.cell 1, k1.cell 2, k2.cell 0, k2.cell 1, ((HP.out.below' hb3).below' ba).cell 2⟩
  have HK3 := Lib.hid K3
  have HB3 := Lib.hid hb3
  have HW : Hid (∀ W, Below w3.heap.size w3 W → Rw.Blk W w2.heap.size 39 [.string ⟨#[]⟩, .int .i64 0]) := fun W hb => HK3.out.below' hb
  have hlt2 := K3.lt
  clear K1 K2 K3 K13 K23 b1 b2 b3 hb2 hb3 ba
  go_region
  all_goals go_wp2_with (first
    | (refine Rw.wpList_store_whole rfl 39 _ _ rfl w2.heap.size rfl [.string loc, .int .i64 pax] rfl _ _ (HW.out _ ((Below.refl _ _).alloc (Nat.le_refl _) _).drew) Hd.iH rfl Hd.one2 ?_; intro w7 K7 f7))
  all_goals
    have hc7 := K7.cell
    have b7 : Below w.heap.size w w7 := (HB3.out.trans (Below.mono (((Below.refl _ _).alloc (Nat.le_refl _) _).drew) hs3)).trans (f7.below (B := w.heap.size) (by simp; omega) (fun k hk => by have h1 : k = w2.heap.size := hk; have h2 := HZ1.out; have h3 := HZ2.out; omega))
    refine bodyPost_ret (v := .tuple #[.agg #[.string loc, .int .i64 pax], .bool b]) ?_ rfl ⟨rfl, b7⟩
    simp [results, Tryz.results15, go_sem, hc7]
end Go.Proofs.YtfodabbmjggieaaGreat
