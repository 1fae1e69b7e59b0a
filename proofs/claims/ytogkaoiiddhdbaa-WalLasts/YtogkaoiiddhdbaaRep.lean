/- The disk in memory, kept and turned: laws on maps keyed by ints, the frame, what a disk is. -/
import Derived.Test.YtogkaoiiddhdbaaMem
namespace Go.Proofs.Ytogkaoiiddhdbaa
open Go.RowKit

namespace Dk
/-- But for the blocks F the world w' is as w was. -/
structure Fr (F : Nat → Prop) (w w' : World) : Prop where
  os : w'.os = w.os
  tape : w'.tape = w.tape
  output : w'.output = w.output
  size : w.heap.size ≤ w'.heap.size
  block : ∀ k, k < w.heap.size → ¬ F k → w'.heap[k]? = w.heap[k]?
theorem Fr.refl (F : Nat → Prop) (w : World) : Fr F w w := ⟨rfl, rfl, rfl, Nat.le_refl _, fun _ _ _ => rfl⟩
theorem Fr.trans {F G : Nat → Prop} {w w' w'' : World} (h : Fr F w w') (h' : Fr G w' w'') (hG : ∀ k, k < w.heap.size → G k → F k) : Fr F w w'' :=
  ⟨h'.os.trans h.os, h'.tape.trans h.tape, h'.output.trans h.output, Nat.le_trans h.size h'.size, fun k hk hF =>
    (h'.block k (Nat.lt_of_lt_of_le hk h.size) (fun hg => hF (hG k hk hg))).trans (h.block k hk hF)⟩
theorem Fr.mono {F G : Nat → Prop} {w w' : World} (h : Fr F w w') (hG : ∀ k, F k → G k) : Fr G w w' :=
  ⟨h.os, h.tape, h.output, h.size, fun k hk hg => h.block k hk (fun hf => hg (hG k hf))⟩
theorem Fr.alloc (F : Nat → Prop) (w : World) (o : Obj) : Fr F w (w.alloc o) := ⟨rfl, rfl, rfl, by simp, fun k hk _ => Below.heap_alloc _ _ _ hk⟩
theorem Fr.drew {F : Nat → Prop} {w w' : World} (h : Fr F w w') : Fr F w w'.drew := ⟨h.os, h.tape, h.output, h.size, h.block⟩
theorem Fr.drewl {F : Nat → Prop} {w w' : World} (h : Fr F w.drew w') : Fr F w w' := ⟨h.os, h.tape, h.output, h.size, h.block⟩
theorem Fr.setCell {F : Nat → Prop} (w : World) {p : Addr} (hp : F p.block) (u : Value) : Fr F w (w.setCell p u) :=
  ⟨rfl, rfl, rfl, by simp [World.setCell], fun k _ hk => Below.heap_setCell _ _ _ _ (fun e => hk (e ▸ hp))⟩
theorem Fr.grown {F : Nat → Prop} {w w' : World} {row : Option Nat} (h : w.grownBy w' row) (hr : ∀ k, row = some k → F k) : Fr F w w' :=
  ⟨h.os, h.tape, h.output, h.size, fun k hk hF => h.block k hk (fun e => hF (hr k e.symm))⟩
theorem Fr.below {F : Nat → Prop} {B : Nat} {w w' : World} (h : Fr F w w') (hB : B ≤ w.heap.size) (hF : ∀ k, F k → B ≤ k) : Below B w w' :=
  ⟨h.os, h.tape, h.output, h.size, fun k hk => h.block k (by omega) (fun hf => by have := hF k hf; omega)⟩
theorem Fr.of_below {F : Nat → Prop} {w w' : World} (h : Below w.heap.size w w') : Fr F w w' :=
  ⟨h.os, h.tape, h.output, h.size, fun k hk _ => h.block k hk⟩
theorem lt_of_some {w : World} {k : Nat} {o : Obj} (h : w.heap[k]? = some o) : k < w.heap.size := by
  rcases Nat.lt_or_ge k w.heap.size with hlt | hge
  · exact hlt
  · rw [Array.getElem?_eq_none hge] at h; cases h

theorem MapAt.lt {w : World} {r : Nat} {f : Int → Option Value} (h : MapAt w r f) : r < w.heap.size := by
  obtain ⟨es, ck, hb, _⟩ := h
  exact lt_of_some hb
theorem MapAt.kept {w w' : World} {r : Nat} {f : Int → Option Value} (h : MapAt w r f) (e : w'.heap[r]? = w.heap[r]?) : MapAt w' r f := by
  obtain ⟨es, ck, hb, h2⟩ := h
  exact ⟨es, ck, e.trans hb, h2⟩
theorem MapAt.congr {w : World} {r : Nat} {f g : Int → Option Value} (h : MapAt w r f) (e : ∀ k, f k = g k) : MapAt w r g := by
  obtain ⟨es, ck, hb, h2, h3⟩ := h
  exact ⟨es, ck, hb, h2, fun k => (h3 k).trans (e k)⟩
theorem MapAt.made (w : World) : MapAt (w.alloc (.map #[] 0)) w.heap.size (fun _ => none) :=
  ⟨#[], 0, (MapKept.heap_alloc w _).1, by intro e he; simp at he, fun _ => rfl⟩

theorem u3 : Try.prog.underlying 3 = some (.int .i64) := by kernel_rfl
theorem u59 : Try.prog.underlying 83 = some (.map 3 120) := by kernel_rfl
theorem u60 : Try.prog.underlying 84 = some (.map 3 3) := by kernel_rfl
theorem u75 : Try.prog.underlying 120 = some (.array 512 5) := by kernel_rfl
theorem u61 : Try.prog.underlying 85 = some (.slice 122) := by kernel_rfl
theorem i75 : (Try.prog.info? 120).map (·.size) = some 512 := by kernel_rfl
theorem i77 : (Try.prog.info? 122).map (·.size) = some 513 := by kernel_rfl
def zeroSec : Value := .agg (cells8 zeros).toArray
theorem z75 (w : World) : (zeroValue 120).run Try.prog w = .ok zeroSec w := by kernel_rfl
theorem z3 (w : World) : (zeroValue 3).run Try.prog w = .ok (.int .i64 0) w := by kernel_rfl

theorem run_check' (n : Nat) (b : Bool) (k : Int) (w : World) : (Instr.checkKey b (n + 1) 3 (.int .i64 k)).run Try.prog w = .ok () w := by
  simp [Instr.checkKey, run_underlying u3]
theorem run_check (b : Bool) (k : Int) (w : World) : (Instr.checkKey b 10000 3 (.int .i64 k)).run Try.prog w = .ok () w := run_check' 9999 b k w
theorem run_find {w : World} {es : List MapEntry} (h : IntKeys es) (k : Int) : ∃ r, (Instr.findKey 3 (.int .i64 k) es).run Try.prog w = .ok r w ∧ r.map (·.2) = lk es k ∧
    (∀ j v, r = some (j, v) → (∃ e, es[j]? = some e ∧ e.key = .int .i64 k) ∧ ∀ i' < j, ∀ e, es[i']? = some e → e.key ≠ .int .i64 k) := by
  obtain ⟨r, h1, h2, h3⟩ := findNow_lk k es 0 h
  refine ⟨r, by simp [Instr.findKey, run_underlying u3, h1], h2, fun j v e => ?_⟩
  have h4 := h3 j v e
  subst e
  have h5 := findNow_first k es 0 j v h h1
  simp only [Nat.sub_zero] at h4 h5
  exact ⟨h4.2, h5⟩
theorem run_look {w : World} {r : Nat} {f : Int → Option Value} (h : MapAt w r f) (k : Int) {t e : TypeId} (ht : Try.prog.underlying t = some (.map 3 e)) (z : Value) (hz : (zeroValue e).run Try.prog w = .ok z w) (c : Bool) :
    (Instr.lookup t (.map (some r)) (.int .i64 k) c).run Try.prog w = .ok (if c then .tuple #[(f k).getD z, .bool (f k).isSome] else (f k).getD z) w := by
  obtain ⟨es, ck, hb, hI, hf⟩ := h
  obtain ⟨q, h1, h2, _⟩ := run_find (w := w) hI k
  rw [← hf k, ← h2]
  cases q with
  | none => cases c <;> simp [Instr.lookup, run_underlying ht, MapKept.run_getObj_map hb, run_check, h1, hz]
  | some x => cases c <;> simp [Instr.lookup, run_underlying ht, MapKept.run_getObj_map hb, run_check, h1]
theorem sameBits_int' (n : Nat) (k : Int) : Instr.sameBits n (.int .i64 k) (.int .i64 k) = true := by
  cases n <;> simp [Instr.sameBits]
theorem sameBits_int (k : Int) : Instr.sameBits 10000 (.int .i64 k) (.int .i64 k) = true := sameBits_int' _ k
theorem heap_setObj (w : World) (r : Nat) (o : Obj) (h : r < w.heap.size) : ({ w with heap := w.heap.setIfInBounds r o } : World).heap[r]? = some o := by
  simp [h]
theorem run_upd {w : World} {r : Nat} {f : Int → Option Value} (h : MapAt w r f) (k : Int) {t e : TypeId} (ht : Try.prog.underlying t = some (.map 3 e)) (v : Value) :
    ∃ w', (Instr.mapUpdate t (.map (some r)) (.int .i64 k) v).run Try.prog w = .ok () w' ∧ MapAt w' r (fun j => if j = k then some v else f j) ∧ Fr (· = r) w w' := by
  have hlt := h.lt
  obtain ⟨es, ck, hb, hI, hf⟩ := h
  obtain ⟨q, h1, h2, h3⟩ := run_find (w := w) hI k
  have hfr : ∀ o, Fr (· = r) w ({ w with heap := w.heap.setIfInBounds r o } : World) := fun o =>
    ⟨rfl, rfl, rfl, by simp, fun i _ hi => by simp only [Array.getElem?_setIfInBounds]; rw [if_neg (fun e => hi e.symm)]⟩
  have hset : ∀ o, (setObj r o).run Try.prog w = .ok () ({ w with heap := w.heap.setIfInBounds r o } : World) := fun o => by
    simp [setObj, Sem.run, hb]
  cases q with
  | none =>
    refine ⟨_, by simp [Instr.mapUpdate, run_underlying ht, MapKept.run_getObj_map hb, run_check, h1, hset], ⟨es.push { key := .int .i64 k, val := v, born := ck }, ck + 1, heap_setObj w r _ hlt, ?_, ?_⟩, hfr _⟩
    · intro e' he
      simp at he
      rcases he with he | he
      · exact hI e' (by simpa using he)
      · exact ⟨k, by rw [he]⟩
    · intro j
      show _ = if j = k then some v else f j
      rw [← hf j]
      simp only [Array.toList_push]
      exact lk_push k v ck es.toList (by rw [← h2]; rfl) j
  | some x =>
    obtain ⟨i, u⟩ := x
    obtain ⟨⟨e0, he0, hk0⟩, hfirst⟩ := h3 i u rfl
    have he1 : es[i]? = some e0 := by simpa using he0
    have hstay : (Instr.keyThatStays (((es[i]?).map (·.key)).getD (.int .i64 k)) (.int .i64 k)).run Try.prog w = .ok (.int .i64 k) w := by
      simp [Instr.keyThatStays, he1, hk0, sameBits_int]
    refine ⟨_, by simp only [Instr.mapUpdate, run_underlying ht, MapKept.run_getObj_map hb, run_check, h1, Sem.run_bind, Result.andThen_ok, hstay, hset], ⟨es.modify i fun e => { e with key := .int .i64 k, val := v }, ck, heap_setObj w r _ hlt, ?_, ?_⟩, hfr _⟩
    · intro e' he
      simp only [Array.toList_modify] at he
      obtain ⟨n, hn⟩ := List.getElem?_of_mem he
      rw [List.getElem?_modify] at hn
      obtain ⟨e2, he2, e3⟩ := Option.map_eq_some_iff.1 hn
      split at e3
      · exact ⟨k, by rw [← e3]⟩
      · exact hI e' (by rw [← e3]; exact List.mem_of_getElem? he2)
    · intro j
      show _ = if j = k then some v else f j
      rw [← hf j]
      simp only [Array.toList_modify]
      exact lk_modify k v es.toList i ⟨e0, he0, hk0⟩ hfirst j
/-- The cells of the writes of a row. -/
def flat : List (Int × List UInt8) → List Value
  | [] => []
  | x :: r => (.int .i64 x.1 :: cells8 x.2) ++ flat r
theorem flat_append : ∀ (l m : List (Int × List UInt8)), flat (l ++ m) = flat l ++ flat m
  | [], _ => rfl
  | x :: r, m => by simp [flat, flat_append r m]
theorem flat_length : ∀ (l : List (Int × List UInt8)), (∀ x ∈ l, x.2.length = 512) → (flat l).length = l.length * 513
  | [], _ => by simp [flat]
  | x :: r, h => by
    have h1 := h x (by simp)
    have h2 := flat_length r (fun y hy => h y (by simp [hy]))
    simp only [flat, List.length_append, List.length_cons, length_cells8]
    omega
theorem flat_at : ∀ (l : List (Int × List UInt8)) (i : Nat) (x : Int × List UInt8), (∀ x ∈ l, x.2.length = 512) → l[i]? = some x → ∀ j, j < 513 → (flat l)[i * 513 + j]? = (.int .i64 x.1 :: cells8 x.2)[j]?
  | [], i, x, _, h => by simp at h
  | y :: r, 0, x, hl, h => by
    simp at h
    subst h
    intro j hj
    have h1 := hl y (by simp)
    rw [flat, Nat.zero_mul, Nat.zero_add, List.getElem?_append_left (by simp [length_cells8]; omega)]
  | y :: r, i + 1, x, hl, h => by
    intro j hj
    have h1 := hl y (by simp)
    rw [flat, List.getElem?_append_right (by simp [length_cells8]; omega)]
    rw [show (i + 1) * 513 + j - (Value.int .i64 y.1 :: cells8 y.2).length = i * 513 + j by simp [length_cells8]; omega]
    exact flat_at r i x (fun z hz => hl z (by simp [hz])) (by simpa using h) j hj
theorem one_flat : ∀ (l : List (Int × List UInt8)), ∀ v ∈ flat l, v.oneCell' = true
  | [], v, h => by simp [flat] at h
  | x :: r, v, h => by
    simp only [flat, List.mem_append, List.mem_cons] at h
    rcases h with (h | h) | h
    · subst h; rfl
    · exact one_cells8 _ v h
    · exact one_flat r v h

def secV (o : Option (List UInt8)) : Option Value := o.map fun l => .agg (cells8 l).toArray
def ixV (o : Option Nat) : Option Value := o.map fun i => .int .i64 (i : Int)
/-- The blocks of a disk. -/
def Own (p a c : Nat) (v : Value) : Nat → Prop := fun k => k = p ∨ k = a ∨ k = c ∨ v.ownBlock = some k
structure At (w : World) (p a c : Nat) (v : Value) (s : S) : Prop where
  str : w.heap[p]? = some (.cells #[.int .i64 s.n, .map (some a), v, .map (some c), .bool s.down, .bool s.fused, .int .i64 s.left] 87 (0, 0))
  safe : MapAt w a (fun k => secV (s.safe k))
  late : MapAt w c (fun k => ixV (lastIx s.wait k))
  row : w.ownsRow 0 122 513 v s.wait.length (flat s.wait)
  pa : p ≠ a
  pc : p ≠ c
  ac : a ≠ c
  pv : v.ownBlock ≠ some p
  av : v.ownBlock ≠ some a
  cv : v.ownBlock ≠ some c
  okw : ∀ x ∈ s.wait, x.2.length = 512
  oks : ∀ k l, s.safe k = some l → l.length = 512
def Dsk (w : World) (p : Nat) (F : Nat → Prop) (s : S) : Prop := ∃ a c v, At w p a c v s ∧ F = Own p a c v

section
variable {w w' : World} {p a c : Nat} {v : Value} {s : S} {F : Nat → Prop}
theorem At.cell (h : At w p a c v s) (j : Nat) : w.cell? ⟨p, j, none⟩ = (#[.int .i64 s.n, .map (some a), v, .map (some c), .bool s.down, .bool s.fused, .int .i64 s.left] : Array Value)[j]? :=
  cell_of_row w p j _ _ _ h.str
theorem At.c0 (h : At w p a c v s) : w.cell? ⟨p, 0, none⟩ = some (.int .i64 s.n) := h.cell 0
theorem At.c1 (h : At w p a c v s) : w.cell? ⟨p, 1, none⟩ = some (.map (some a)) := h.cell 1
theorem At.c2 (h : At w p a c v s) : w.cell? ⟨p, 2, none⟩ = some v := h.cell 2
theorem At.c3 (h : At w p a c v s) : w.cell? ⟨p, 3, none⟩ = some (.map (some c)) := h.cell 3
theorem At.c4 (h : At w p a c v s) : w.cell? ⟨p, 4, none⟩ = some (.bool s.down) := h.cell 4
theorem At.c5 (h : At w p a c v s) : w.cell? ⟨p, 5, none⟩ = some (.bool s.fused) := h.cell 5
theorem At.c6 (h : At w p a c v s) : w.cell? ⟨p, 6, none⟩ = some (.int .i64 s.left) := h.cell 6
theorem At.free (h : At w p a c v s) (j : Nat) : w.frozen? ⟨p, j, none⟩ = false := by
  simp [World.frozen?, h.str]
theorem ownsRow_kept {w w' : World} {v : Value} {n : Nat} {xs : List Value} (h : w.ownsRow 0 122 513 v n xs) (e : ∀ g, v.ownBlock = some g → w'.heap[g]? = w.heap[g]?) : w'.ownsRow 0 122 513 v n xs := by
  obtain ⟨h1, h2⟩ := h
  refine ⟨h1, ?_⟩
  rcases h2 with h2 | ⟨g, cap, cur, hv, hg, hh, r⟩
  · exact .inl h2
  · exact .inr ⟨g, cap, cur, hv, hg, by rw [e g (by rw [hv]; rfl)]; exact hh, r⟩
theorem At.kept (h : At w p a c v s) (e : ∀ k, Own p a c v k → w'.heap[k]? = w.heap[k]?) : At w' p a c v s :=
  ⟨(e p (.inl rfl)).trans h.str, h.safe.kept (e a (.inr (.inl rfl))), h.late.kept (e c (.inr (.inr (.inl rfl)))), ownsRow_kept h.row (fun g hg => e g (.inr (.inr (.inr hg)))),
    h.pa, h.pc, h.ac, h.pv, h.av, h.cv, h.okw, h.oks⟩
theorem At.lt (h : At w p a c v s) : ∀ k, Own p a c v k → k < w.heap.size := by
  rintro k (rfl | rfl | rfl | hk)
  · exact lt_of_some h.str
  · exact h.safe.lt
  · exact h.late.lt
  · exact (h.row.lt k hk).2
theorem Dsk.lt (h : Dsk w p F s) : ∀ k, F k → k < w.heap.size := by
  obtain ⟨a, c, v, hA, rfl⟩ := h
  exact hA.lt
theorem Dsk.kept (h : Dsk w p F s) (e : ∀ k, F k → w'.heap[k]? = w.heap[k]?) : Dsk w' p F s := by
  obtain ⟨a, c, v, hA, rfl⟩ := h
  exact ⟨a, c, v, hA.kept e, rfl⟩
theorem Dsk.fr {G : Nat → Prop} (h : Dsk w p F s) (hf : Fr G w w') (hd : ∀ k, F k → ¬ G k) : Dsk w' p F s :=
  h.kept (fun k hk => hf.block k (h.lt k hk) (hd k hk))
theorem Dsk.alloc (h : Dsk w p F s) (o : Obj) : Dsk (w.alloc o) p F s := h.fr (Fr.alloc (fun _ => False) w o) (fun _ _ h => h)
theorem Dsk.drew (h : Dsk w p F s) : Dsk w.drew p F s := h.kept (fun _ _ => rfl)
theorem Dsk.own (h : Dsk w p F s) : F p := by
  obtain ⟨a, c, v, hA, rfl⟩ := h
  exact .inl rfl
/-- A store into the struct. -/
theorem At.set (h : At w p a c v s) (j : Nat) (u : Value) (s' : S) (hs : s'.safe = s.safe) (hw : s'.wait = s.wait)
    (e : (#[.int .i64 s.n, .map (some a), v, .map (some c), .bool s.down, .bool s.fused, .int .i64 s.left] : Array Value).setIfInBounds j u = #[.int .i64 s'.n, .map (some a), v, .map (some c), .bool s'.down, .bool s'.fused, .int .i64 s'.left]) :
    At (w.setCell ⟨p, j, none⟩ u) p a c v s' := by
  have hk : ∀ k, k ≠ p → (w.setCell ⟨p, j, none⟩ u).heap[k]? = w.heap[k]? := fun k hk => Below.heap_setCell _ _ _ _ hk
  refine ⟨?_, ?_, ?_, ?_, h.pa, h.pc, h.ac, h.pv, h.av, h.cv, by rw [hw]; exact h.okw, by rw [hs]; exact h.oks⟩
  · rw [← e]
    simp [World.setCell, Array.getElem?_modify, h.str]
  · rw [hs]; exact h.safe.kept (hk a (Ne.symm h.pa))
  · rw [hw]; exact h.late.kept (hk c (Ne.symm h.pc))
  · rw [hw]; exact ownsRow_kept h.row (fun g hg => hk g (fun e => h.pv (e ▸ hg)))
end
/-- The disk at p has gone on: w, F, to w', F'. -/
def Moved (w : World) (F : Nat → Prop) (w' : World) (F' : Nat → Prop) : Prop := Fr F w w' ∧ ∀ k, F' k → F k ∨ w.heap.size ≤ k
theorem Moved.refl (w : World) (F : Nat → Prop) : Moved w F w F := ⟨Fr.refl _ _, fun _ h => .inl h⟩
theorem Moved.trans {w w' w'' : World} {F F' F'' : Nat → Prop} (h : Moved w F w' F') (k : Moved w' F' w'' F'') : Moved w F w'' F'' :=
  ⟨h.1.trans k.1 (fun i hi hF => (h.2 i hF).resolve_right (by omega)), fun i hi => (k.2 i hi).elim (fun h' => h.2 i h') (fun h' => .inr (Nat.le_trans h.1.size h'))⟩
theorem Moved.still {w w' : World} {F : Nat → Prop} (h : Fr F w w') : Moved w F w' F := ⟨h, fun _ h => .inl h⟩
end Dk
end Go.Proofs.Ytogkaoiiddhdbaa
