/- Avail, where one flight goes and no link. -/
import Derived.Test.YtmcekicaigbccaaGreatStLine
import Derived.Test.YtmcekicaigbccaaGreatFlBtw
namespace Go.Proofs.YtmcekicaigbccaaGreat
open Go.RowKit Go.WideMaps
set_option linter.unusedVariables false

namespace St
theorem infoLn : (Tryz.prog.info? 87).map (fun i => (i.zero, i.size, i.bytes)) = some (some (.agg ln0.toArray), 8, 104) := by kernel_rfl
theorem infoLn' : ∃ i, Tryz.prog.info? 87 = some i ∧ i.zero = some (.agg ln0.toArray) ∧ i.size = 8 ∧ i.bytes = 104 := by
  obtain ⟨i, hi, h⟩ := Option.map_eq_some_iff.1 infoLn
  simp only [Prod.mk.injEq] at h
  exact ⟨i, hi, h.1, h.2.1, h.2.2⟩
section
variable {w : World} {ops : Array Oper} {rest : List Oper} {o : Oper} {a : Act} {Q : Exit → Act → World → Prop}
theorem wpList_buildLn (hg : o.guard = none) (y : Operand) (hop : o.op = Op.buildSlice 44 1 #[(0, y)]) (r : Fl.R) (lk : Bool) (A : Option Addr) (n cap : Nat) (hx : a.eval y = .agg (lnc r lk A n cap).toArray)
    (hK : ∀ w', Hid (Rw.Blk w' w.heap.size 87 (lnc r lk A n cap)) → Below w.heap.size w w' → wpList Tryz.prog ops Q rest (a.put o.dst (.slice (some ⟨w.heap.size, 0, none⟩) 1 1)) w') : wpList Tryz.prog ops Q (o :: rest) a w := by
  refine wpList_plain hg fun K hK' => ?_
  have hr : (Instr.buildSlice 44 1 #[(0, .agg (lnc r lk A n cap).toArray)]).run Tryz.prog w = .ok (.slice (some ⟨w.heap.size, 0, none⟩) 1 1) (w.alloc (.cells (lnc r lk A n cap).toArray 87)) := by
    unfold lnc
    simp [Instr.buildSlice, run_underlying Tryz.underlying44, Tryz.sizeOf87, go_sem, Instr.fill, newRow]
  unfold Oper.wp
  simp [execOp, hop, hx, hr, Result.andThen]
  exact hK' _ _ (hK _ (heap_alloc_new w _) ((Below.refl _ _).alloc (Nat.le_refl _) _))
theorem wpList_appendLn (hgd : o.guard = none) (s x : Operand)
    (ho : o.op = .call { callee := .builtin .append, args := #[s, x], argTypes := #[44, 44] }) (hs : a.eval s = .slice none 0 0) (g : Nat) (hx : a.eval x = .slice (some ⟨g, 0, none⟩) 1 1) (cs : List Value) (hg : Rw.Blk w g 87 cs) (hcs : cs.length = 8) (h1 : ∀ v ∈ cs, v.oneCell' = true)
    (h : ∀ A' cap' w', Hid (Below w.heap.size w w') → wpList Tryz.prog ops Q rest (a.put o.dst (.slice A' 1 cap')) w') : wpList Tryz.prog ops Q (o :: rest) a w := by
  obtain ⟨i0, hi0, hz0, hz1, hz2⟩ := infoLn'
  obtain ⟨v', w', hrun, hown', hgr, hnil, _⟩ := run_append_own_at (P := Tryz.prog) w w.heap.size 44 o.type 87 i0 (.agg ln0.toArray) 8 104 Tryz.underlying44 hi0 hz0 hz1 hz2 rfl (by omega) (.slice none 0 0) 0 [] ⟨rfl, .inl ⟨rfl, rfl⟩⟩ ⟨g, 0, none⟩ 1 1 cs (by rw [hcs]) (fun j u hu => by
    rw [Addr.add_mid, Nat.zero_add, hg.cell j]; exact hu) h1 (by unfold maxLen; omega) (by omega) (Nat.le_refl _)
  have hb : Below w.heap.size w w' := ⟨hgr.os, hgr.tape, hgr.output, hgr.size, fun k hk => hgr.block k hk (by simp [Value.ownBlock])⟩
  obtain ⟨A', cap', rfl⟩ : ∃ A' cap', v' = .slice A' 1 cap' := by
    obtain ⟨_, ⟨hv, h0⟩ | ⟨g, cap, cur, hv, _⟩⟩ := hown'
    · simp at h0
    · exact ⟨_, _, hv⟩
  refine wpList_plain hgd fun K hK' => ?_
  unfold Oper.wp execOp
  simp only [ho, resolve, invoke, builtin, Sem.run_bind, Sem.run_pure, Result.andThen_ok, List.map_toArray, List.map_cons, List.map_nil, hs, hx, hrun]
  exact hK' _ _ (h A' cap' w' hb)
end
end St
set_option maxHeartbeats 2000000 in
set_option maxRecDepth 20000 in
theorem avail_one (Bt p t m : Nat) (rs : List Fl.R) (l : List (St.K × Int)) (r : Fl.R) (day : Int) (a b : ByteArray) (w : World) (h : St.At w Bt p t m rs l) (hd0 : -9223372036854775808 ≤ day) (hd1 : day ≤ 9223372036854775807) (hcl : ∀ r ∈ rs, 0 < r.f.cls.length ∧ r.f.cls.length ≤ 3000) (hab : a ≠ b)
    (hB : Fl.dps rs day (Fl.cB a b) = [r]) (hF : (Fl.dps rs day (Fl.cF a)).length ≤ 1) (hS : (Fl.dps rs day (Fl.cS b)).length ≤ 1) (hno : ∀ r ∈ Fl.dps rs day (Fl.cF a), ∀ s ∈ Fl.dps rs day (Fl.cS b), Fl.seq r.f.to s.f.frm = false) :
    Calls Tryz.prog 15 #[.pointer (some ⟨p, 0, none⟩), .int .i64 day, .string a, .string b] w fun e w' => (∃ A c, e = .returned (.slice A 1 c)) ∧ Below w.heap.size w w' := by
  have HP := Lib.hid h.blk
  have HAt := Lib.hid h
  have HBt : Hid (∀ W, Below w.heap.size w W → Calls Tryz.prog 36 #[.pointer (some ⟨t, 0, none⟩), .int .i64 day, .string a, .string b] W (Fl.CopiesIs W [r.f])) := fun W hb => by
    obtain ⟨base, hT⟩ := (h.kept hb).tab.tab
    have := between_one base t rs day a b W hT h.few hcl (by rw [hB]; exact Nat.le_refl _)
    rw [hB] at this
    exact this
  have HLk : Hid (∀ W, Below w.heap.size w W → Calls Tryz.prog 38 #[.pointer (some ⟨t, 0, none⟩), .int .i64 day, .string a, .string b] W fun e w' => e = .returned (.slice none 0 0) ∧ Below W.heap.size W w') := fun W hb => by
    obtain ⟨base, hT⟩ := (h.kept hb).tab.tab
    exact links_none base t rs day a b W hT h.few hab hF hS hno
  have HR : Hid (Fl.right r.f = true) := h.right r (by
    have : r ∈ Fl.dps rs day (Fl.cB a b) := by rw [hB]; simp
    exact (List.mem_filter.1 this).1)
  have c0 : w.cell? ⟨p, 0, none⟩ = some (.pointer (some ⟨t, 0, none⟩)) := HP.out.cell 0
  have hpl := HP.out.lt
  clear h hB hF hS hno hab hcl
  go_enter Tryz.func15, Tryz.ntmps15
  go_wp2_with (first
    | (go_at_call 36; refine (HBt.out _ (Below.refl _ _)).mono ?_; rintro e w2 ⟨A2, c2, rs2, rfl, hm2, ho2, hb2⟩; have HB2 := Lib.hid hb2; have HO2 := Lib.hid ho2; have HM2 := Lib.hid hm2; clear hm2 ho2))
  obtain ⟨r2, e2⟩ : ∃ r2, rs2 = [r2] := by
    have := congrArg List.length HM2.out
    simp at this
    exact List.length_eq_one_iff.1 this
  subst e2
  have hrf : r2.f = r.f := by have := HM2.out; simpa using this
  have HRf := Lib.hid hrf
  have hO2 := HO2.out
  simp only [List.length_cons, List.length_nil, Nat.zero_add] at hO2
  obtain ⟨b2, hA2, hbB2, hrow2⟩ := hO2.at 0 (by simp)
  have HR2 : Hid (w2.rangeAt b2 0 (Fl.enc r2)) := hrow2
  have HW2 := Lib.hid (hO2.wf r2 (by simp))
  have HC2 := Lib.hid ((hO2.cls r2 (by simp)).cls)
  have HRr : Hid (Fl.right r2.f = true) := show _ = _ by rw [hrf]; exact HR.out
  have hs2 := hb2.size
  subst hA2
  clear hO2 hrow2 hrf HM2 HO2 hb2 c0
  refine wp_loop_rounds 2 ?_
  rw [rounds_succ]
  go_wp2_with (first
    | (refine wpList_load_mid rfl 62 _ rfl b2 0 rfl (Fl.enc r2) _ HR2.out Fl.uF Fl.rF Fl.iF ?_)
    | (refine Rw.wpList_alloc rfl 62 rfl (Fl.enc Fl.r0) Fl.zF ?_; intro w4 K4 hb4 hz4; clear hz4)
    | (refine Rw.wpList_store_whole rfl 62 _ _ rfl w2.heap.size rfl (Fl.enc r2) rfl _ _ K4 Fl.iF rfl (Fl.enc_one _) ?_; intro w5 K5 f5; have HB5 : Hid (Below w2.heap.size w2 w5) := hb4.trans (f5.below hb4.size (fun k hk => by have : k = w2.heap.size := hk; omega)); have HK5 := Lib.hid K5; have HB05 := Lib.hid (HB2.out.trans (HB5.out.mono hs2)); clear K4 K5)
    | (refine wpList_load_mid rfl 62 _ rfl w2.heap.size 0 rfl (Fl.enc r2) _ HK5.out.range Fl.uF Fl.rF Fl.iF ?_)
    | (go_at_call 37; refine (line_any Bt p t m rs l r2 day false w2.heap.size w5 (HAt.out.kept HB05.out) HW2.out (HC2.out.below HB5.out (Nat.le_refl _)) HB5.out.size HRr.out hd0 hd1).mono ?_; rintro e w6 ⟨A6, c6, rfl, hO6, hb6⟩; have HB6 := Lib.hid (HB05.out.trans (hb6.mono HB05.out.size)); clear hO6)
    | (refine St.wpList_buildLn rfl _ rfl r2 false A6 _ c6 rfl ?_; intro w7 HK7 hb7; have HB7 := Lib.hid (HB6.out.trans (hb7.mono HB6.out.size)))
    | (refine St.wpList_appendLn rfl _ _ rfl rfl _ rfl _ HK7.out rfl (St.lnc_one _ _ _ _ _) ?_; intro A8 c8 w8 hB8; have HB8 := Lib.hid (HB7.out.trans (hB8.out.mono HB7.out.size))))
  rw [rounds_succ]
  have cp8 : w8.cell? ⟨p, 0, none⟩ = some (.pointer (some ⟨t, 0, none⟩)) := (HP.out.below' HB8.out).cell 0
  go_wp2_with (first
    | (go_at_call 38; refine (HLk.out _ HB8.out).mono ?_; rintro e w9 ⟨rfl, hb9⟩; have HB9 := Lib.hid (HB8.out.trans (hb9.mono HB8.out.size))))
  refine wp_loop_rounds 1 ?_
  rw [rounds_succ]
  go_wp2
  go_ret
  exact ⟨⟨A8, c8, rfl⟩, HB9.out⟩
end Go.Proofs.YtmcekicaigbccaaGreat
