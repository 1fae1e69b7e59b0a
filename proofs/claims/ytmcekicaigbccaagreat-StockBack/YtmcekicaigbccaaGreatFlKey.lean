/- Keys of flights as keys of a map. -/
import Derived.Test.YtmcekicaigbccaaGreatFlCps
import Derived.WalkArith
namespace Go.Proofs.YtmcekicaigbccaaGreat
open Go.RowKit Go.WideMaps
set_option linter.unusedVariables false

theorem laidOut : laidOutB Tryz.prog = true := by kernel_rfl
namespace Fl
theorem rowKey : (32 : TypeId) < Tryz.prog.types.size := of_decide_eq_true (by kernel_rfl)
theorem wideKey : (match Tryz.prog.underlying 32 with | some (.array _ _) | some (.struct _) => true | _ => false) = true := by kernel_rfl
set_option maxRecDepth 20000 in
theorem lawKey : KeyLaw Tryz.prog 32 := deep_law_laid laidOut (m := 3) (by omega) rowKey (by kernel_rfl) wideKey
theorem cellsKey : Tryz.prog.cellsOf 32 = 2 := by kernel_rfl
def kv (f : F) : Value := .agg #[.string f.car, .int .i64 f.num]
theorem kv_inj {f g : F} (h : kv f = kv g) : f.car = g.car ∧ f.num = g.num := by
  simp [kv] at h
  exact h
theorem fieldsKey : ∃ fs, Tryz.prog.underlying 32 = some (.struct fs) ∧ fs.all (fun f => f.name != "_") = true ∧ fs.toList.map (fun f => (f.type, f.offset)) = [(9, 0), (3, 1)] := by
  have h : (match Tryz.prog.underlying 32 with | some (.struct fs) => fs.all (fun f => f.name != "_") && decide (fs.toList.map (fun f => (f.type, f.offset)) = [(9, 0), (3, 1)]) | _ => false) = true := by kernel_rfl
  split at h
  · rename_i fs he
    simp only [Bool.and_eq_true, decide_eq_true_eq] at h
    exact ⟨fs, he, h.1, h.2⟩
  · cases h
theorem keyType : Tryz.prog.keyType 32 = true := by kernel_rfl
theorem cells1 : Tryz.prog.cellsOf 9 = 1 ∧ Tryz.prog.cellsOf 3 = 1 := ⟨by kernel_rfl, by kernel_rfl⟩
theorem uStr : Tryz.prog.underlying 9 = some .string := by kernel_rfl
theorem uInt : Tryz.prog.underlying 3 = some (.int .i64) := by kernel_rfl
theorem succ_of {a : Nat} (k : Nat) (h : k < a) : ∃ n, a = n + 1 := ⟨a - 1, by omega⟩
theorem sizeTys : ∃ n, Tryz.prog.types.size = n + 1 := succ_of 32 rowKey
theorem kv_key {f : F} (hs : f.car.size ≤ 9223372036854775807) (h0 : -9223372036854775808 ≤ f.num) (h1 : f.num ≤ 9223372036854775807) : Mp.KeyIs Tryz.prog 32 (kv f) := by
  obtain ⟨fs, hu, hn, hf⟩ := fieldsKey
  obtain ⟨n, hz⟩ := sizeTys
  have hfs : ∃ a b, fs.toList = [a, b] ∧ a.type = 9 ∧ a.offset = 0 ∧ b.type = 3 ∧ b.offset = 1 := by
    rcases hl : fs.toList with _ | ⟨a, _ | ⟨b, _ | ⟨c, r⟩⟩⟩ <;> rw [hl] at hf <;> simp at hf
    exact ⟨a, b, rfl, hf.1.1, hf.1.2, hf.2.1, hf.2.2⟩
  obtain ⟨a, b, hl, ha, hao, hb, hbo⟩ := hfs
  have hw := Go.WalkArith.wf_i64 ⟨h0, h1⟩
  have hS : Tryz.prog.keyLits (n + 1) 9 [.string f.car] = some [.string f.car.data.toList] := by
    simp only [Program.keyLits, uStr]
    rw [if_pos (show f.car.size ≤ maxLen by unfold maxLen; omega)]
  have hI : Tryz.prog.keyLits (n + 1) 3 [.int .i64 f.num] = some [.int .i64 f.num] := by
    simp only [Program.keyLits, uInt]
    rw [if_pos ⟨trivial, hw⟩]
  have hL : Tryz.prog.keyLits (Tryz.prog.types.size + 1) 32 [.string f.car, .int .i64 f.num] = some [.string f.car.data.toList, .int .i64 f.num] := by
    have hM : (fs.toList.mapM fun q => Tryz.prog.keyLits (n + 1) q.type (([.string f.car, .int .i64 f.num] : List Value).drop q.offset |>.take (Tryz.prog.cellsOf q.type))) = some [[.string f.car.data.toList], [.int .i64 f.num]] := by
      rw [hl]
      simp only [List.mapM_cons, List.mapM_nil, ha, hao, hb, hbo, cells1.1, cells1.2, List.drop_zero, List.drop_succ_cons, List.take_succ_cons, List.take_zero, hS, hI]
      rfl
    rw [hz]
    generalize n + 1 = m at hM ⊢
    simp only [Program.keyLits, hu, hM]
    rw [if_pos ⟨by rw [cellsKey]; rfl, hn⟩]
    rfl
  have hv : (kv f).formed Tryz.prog 32 = true := by
    simp [kv, Value.formed, hu, cellsKey]
  refine ⟨.string (keyBytes [.string f.car.data.toList, .int .i64 f.num]), ?_⟩
  unfold keyOf
  rw [hu]
  simp only
  rw [keyType, hv]
  simp only [kv, Value.cells, Bool.and_self, if_true, hL]
  rfl
end Fl
end Go.Proofs.YtmcekicaigbccaaGreat
