/- What play needs besides: the call's own variables, appends of bytes and bools, the disk's calls beside what they leave alone. -/
import Derived.Test.YtngpdjkeoodigaaTells
namespace Go.Proofs.Ytngpdjkeoodigaa
open Go.RowKit

namespace Dk
def av (x : ActD) (Ad Ak : Option Addr) (cd ck : Nat) : Value := .agg #[.int .i64 x.kind, .int .i64 x.i, .int .i64 x.n, .slice Ad x.data.length cd, .slice Ak x.keep.length ck]
def ac (x : ActD) (Ad Ak : Option Addr) (cd ck : Nat) : List Value := [.int .i64 x.kind, .int .i64 x.i, .int .i64 x.n, .slice Ad x.data.length cd, .slice Ak x.keep.length ck]
/-- Block g is the call x. -/
def AB (w : World) (g : Nat) (x : ActD) (Ad Ak : Option Addr) (cd ck : Nat) : Prop := w.heap[g]? = some (.cells (ac x Ad Ak cd ck).toArray 37 (0, 0))
section
variable {w w' : World} {g : Nat} {x : ActD} {Ad Ak : Option Addr} {cd ck : Nat}
theorem AB.cell (h : AB w g x Ad Ak cd ck) (j : Nat) : w.cell? ⟨g, j, none⟩ = (ac x Ad Ak cd ck)[j]? := by
  rw [cell_of_row w g j _ _ _ h]; simp
theorem AB.c0 (h : AB w g x Ad Ak cd ck) : w.cell? ⟨g, 0, none⟩ = some (.int .i64 x.kind) := h.cell 0
theorem AB.c1 (h : AB w g x Ad Ak cd ck) : w.cell? ⟨g, 1, none⟩ = some (.int .i64 x.i) := h.cell 1
theorem AB.c2 (h : AB w g x Ad Ak cd ck) : w.cell? ⟨g, 2, none⟩ = some (.int .i64 x.n) := h.cell 2
theorem AB.c3 (h : AB w g x Ad Ak cd ck) : w.cell? ⟨g, 3, none⟩ = some (.slice Ad x.data.length cd) := h.cell 3
theorem AB.c4 (h : AB w g x Ad Ak cd ck) : w.cell? ⟨g, 4, none⟩ = some (.slice Ak x.keep.length ck) := h.cell 4
theorem AB.lt (h : AB w g x Ad Ak cd ck) : g < w.heap.size := lt_of_some h
theorem AB.kept (h : AB w g x Ad Ak cd ck) (e : w'.heap[g]? = w.heap[g]?) : AB w' g x Ad Ak cd ck := e.trans h
end
/-- The three variables of play. -/
structure Vars (w : World) (g4 g5 g7 : Nat) (r : R) (sv wv : Value) (x : ActD) (Ad Ak : Option Addr) (cd ck : Nat) : Prop where
  m : RB w g4 r sv wv
  a : AB w g5 x Ad Ak cd ck
  z : ∃ cs : List Value, cs.length = 6 ∧ w.heap[g7]? = some (.cells cs.toArray 30 (0, 0))
theorem Vars.keep {w w' : World} {g4 g5 g7 : Nat} {r : R} {sv wv : Value} {x : ActD} {Ad Ak : Option Addr} {cd ck : Nat} (h : Vars w g4 g5 g7 r sv wv x Ad Ak cd ck) (hk : Keep w w') : Vars w' g4 g5 g7 r sv wv x Ad Ak cd ck := by
  obtain ⟨cs, h1, h2⟩ := h.z
  exact ⟨h.m.keep hk, h.a.kept (hk g5 ⟨_, _, _, h.a, by decide, by decide⟩), cs, h1, (hk g7 ⟨_, _, _, h2, by decide, by decide⟩).trans h2⟩
theorem Vars.set {w w' : World} {g4 g5 g7 : Nat} {r r' : R} {sv wv sv' wv' : Value} {x : ActD} {Ad Ak : Option Addr} {cd ck : Nat} (h : Vars w g4 g5 g7 r sv wv x Ad Ak cd ck) (hm : RB w' g4 r' sv' wv') (hf : Fr (· = g4) w w') (h5 : g5 ≠ g4) (h7 : g7 ≠ g4) : Vars w' g4 g5 g7 r' sv' wv' x Ad Ak cd ck := by
  obtain ⟨cs, h1, h2⟩ := h.z
  exact ⟨hm, h.a.kept (hf.block g5 h.a.lt h5), cs, h1, (hf.block g7 (lt_of_some h2) h7).trans h2⟩
section
variable {w : World} {ops : Array Oper} {rest : List Oper} {o : Oper} {a : Act} {Q : Exit → Act → World → Prop}
theorem wpList_box37 (hg : o.guard = none) (y : Operand) (hop : o.op = Op.box 37 y) (x : ActD) (Ad Ak : Option Addr) (cd ck : Nat) (hx : a.eval y = av x Ad Ak cd ck)
    (hK : ∀ w', AB w' w.heap.size x Ad Ak cd ck → Below w.heap.size w w' → w.heap.size < w'.heap.size → wpList Try.prog ops Q rest (a.put o.dst (.pointer (some ⟨w.heap.size, 0, none⟩))) w') : wpList Try.prog ops Q (o :: rest) a w := by
  refine wpList_plain hg fun K hK' => ?_
  have hr : (Instr.box 37 (av x Ad Ak cd ck)).run Try.prog w = .ok (.pointer (some ⟨w.heap.size, 0, none⟩)) (w.alloc (.cells (ac x Ad Ak cd ck).toArray 37)) := by
    simp [Instr.box, newVar, newRow, av, ac, Value.cells, go_sem]
  unfold Oper.wp
  simp [execOp, hop, hx, hr, Result.andThen]
  exact hK' _ _ (hK _ (heap_alloc_new w _) ((Below.refl _ _).alloc (Nat.le_refl _) _) (by simp))
/-- append to an empty slice of one's own: bytes (t 34, e 5) or bools (t 35, e 4). -/
theorem run_append_empty (t e : TypeId) (z : Value) (hu : Try.prog.underlying t = some (.slice e)) (hi : (Try.prog.info? e).map (fun i => (i.zero, i.size, i.bytes)) = some (some z, 1, 1)) (hz : z.cells.size = 1) (ty : TypeId) (w : World) (A : Option Addr) (n c : Nat) (cs : List Value) (hn : cs.length = n)
    (hs : 0 < n → ∃ b off, A = some ⟨b, off, none⟩ ∧ ∀ j v, cs[j]? = some v → w.cell? ⟨b, off + j, none⟩ = some v) (h1 : ∀ v ∈ cs, v.oneCell' = true) (hl : n ≤ 140737488355328) :
    ∃ g cap w', (Builtin.append_ #[t, t] ty #[.slice (some ⟨w.heap.size, 0, none⟩) 0 0, .slice A n c]).run Try.prog (w.alloc (.cells #[] e)) = .ok (.slice (some ⟨g, 0, none⟩) n cap) w' ∧ w'.ownsRow w.heap.size e 1 (.slice (some ⟨g, 0, none⟩) n cap) n cs ∧ Below w.heap.size w w' := by
  obtain ⟨i0, hi0, hz0, hz1, hz2⟩ := info_parts hi
  have hown : (w.alloc (.cells #[] e)).ownsRow w.heap.size e 1 (.slice (some ⟨w.heap.size, 0, none⟩) 0 0) 0 [] := World.ownsRow_made w #[] 0 (Nat.le_refl _) (by unfold maxLen; omega) (by simp)
  by_cases h0 : n = 0
  · subst h0
    have hc0 : cs = [] := List.eq_nil_of_length_eq_zero hn
    subst hc0
    refine ⟨w.heap.size, 0, w.alloc (.cells #[] e), ?_, hown, (Below.refl _ w).alloc (Nat.le_refl _) _⟩
    cases A with
    | none => simp [Builtin.append_, run_underlying hu, sizeOf, typeInfo, hi0, Builtin.lenOf, Builtin.firstCells, storeCells]
    | some x =>
      have hf := run_firstCells_some (P := Try.prog) (w.alloc (.cells #[] e)) i0.size 0 x 0 c [] (by simp) (by simp)
      simp [Builtin.append_, run_underlying hu, sizeOf, typeInfo, hi0, Builtin.lenOf, hf, storeCells]
  · obtain ⟨b, off, rfl, hc⟩ := hs (by omega)
    obtain ⟨v', w', hr, h2, h3, h4, _⟩ := run_append_own_at (P := Try.prog) (w.alloc (.cells #[] e)) w.heap.size t ty e i0 z 1 1 hu hi0 hz0 hz1 hz2 hz (by omega) _ 0 [] hown ⟨b, off, none⟩ n c cs (by omega) (fun j u hu => by
      rw [add_plain]
      have := hc j u hu
      rw [World.cell?_alloc_lt _ _ _ (World.block_lt_of_cell? w _ this)]
      exact this) h1 (by unfold maxLen; omega) (by omega) (by simp)
    rw [Nat.zero_add, List.nil_append] at h2
    have hb : Below w.heap.size w w' := ((Below.refl _ w).alloc (Nat.le_refl _) _).grown h3 (by simp) (fun k hk => by simp [Value.ownBlock] at hk; omega)
    rcases h2.2 with ⟨h5, h6⟩ | ⟨g, cap, cur, h5, _⟩
    · omega
    · subst h5
      exact ⟨g, cap, w', hr, h2, hb⟩
end
/-- The slice at g holds the bytes l (and may hold more). -/
def BO (w : World) (g : Nat) (l : List UInt8) : Prop := ∃ cur, w.heap[g]? = some (.cells cur 5 (0, 0)) ∧ cur.toList.take l.length = cells8 l
theorem BO.bts {w : World} {g : Nat} {l : List UInt8} (h : BO w g l) : Bts w (· = g) (some ⟨g, 0, none⟩) l := fun _ => by
  obtain ⟨cur, hh, ht⟩ := h
  refine ⟨g, 0, rfl, rfl, fun j hj => ?_⟩
  rw [Nat.zero_add, cell_of_row w g j _ _ _ hh, ← Array.getElem?_toList, ← List.getElem?_take_of_lt hj, ht, get_cells8 l j hj]
theorem BO.oth {w : World} {g : Nat} {l : List UInt8} (h : BO w g l) : Oth w g := by
  obtain ⟨cur, hh, _⟩ := h
  exact ⟨_, _, _, hh, by decide, by decide⟩
theorem BO.kept {w w' : World} {g : Nat} {l : List UInt8} (h : BO w g l) (e : w'.heap[g]? = w.heap[g]?) : BO w' g l := by
  obtain ⟨cur, hh, ht⟩ := h
  exact ⟨cur, e.trans hh, ht⟩
theorem BO.lt {w : World} {g : Nat} {l : List UInt8} (h : BO w g l) : g < w.heap.size := h.oth.lt
theorem Row.bo {w : World} {g : Nat} {l : List UInt8} (h : Row w g 5 l) : BO w g l := ⟨_, h, by simp [← length_cells8]⟩
theorem BO.of_own {w : World} {base g n cap : Nat} {l : List UInt8} (hn : n = l.length) (h : w.ownsRow base 5 1 (.slice (some ⟨g, 0, none⟩) n cap) n (cells8 l)) : BO w g l := by
  subst hn
  rcases h.2 with ⟨h1, _⟩ | ⟨g', cap', cur, h1, _, hh, _, _, _, ht⟩
  · cases h1
  · injection h1 with h1
    injection h1 with h1
    injection h1 with h1
    subst h1
    exact ⟨cur, hh, by rw [Nat.mul_one] at ht; exact ht⟩
/-- Block g has room for n cells of bytes. -/
def Room (w : World) (g n : Nat) : Prop := ∃ cur, w.heap[g]? = some (.cells cur 5 (0, 0)) ∧ n ≤ cur.size
theorem BO.room {w : World} {g : Nat} {l : List UInt8} (h : BO w g l) : Room w g l.length := by
  obtain ⟨cur, hh, ht⟩ := h
  refine ⟨cur, hh, ?_⟩
  have := congrArg List.length ht
  rw [List.length_take, length_cells8] at this
  simp at this
  omega
theorem Room.cell {w : World} {g n : Nat} (h : Room w g n) (j : Nat) (hj : j < n) : ∃ u, w.cell? ⟨g, j, none⟩ = some u := by
  obtain ⟨cur, hh, hn⟩ := h
  exact ⟨cur[j]'(by omega), by rw [cell_of_row w g j _ _ _ hh, Array.getElem?_eq_getElem (by omega)]⟩
theorem Room.free {w : World} {g n : Nat} (h : Room w g n) (j : Nat) : w.frozen? ⟨g, j, none⟩ = false := by
  obtain ⟨cur, hh, _⟩ := h
  exact frozen_row hh j
theorem Room.set {w : World} {g n : Nat} (h : Room w g n) (j : Nat) (u : Value) : Room (w.setCell ⟨g, j, none⟩ u) g n := by
  obtain ⟨cur, hh, hn⟩ := h
  exact ⟨_, set_row hh j u, by simpa using hn⟩
/-- A step that turns a row of bytes alone. -/
theorem Live.row {w0 w w' : World} {p g n : Nat} {s : S} (h : Live w0 (fun _ => False) w p s) (hr : Room w g n) (hf : Fr (· = g) w w') (hg : w0.heap.size ≤ g) : Live w0 (fun _ => False) w' p s := by
  obtain ⟨cur, hh, _⟩ := hr
  obtain ⟨F, hD, hF, hb, _⟩ := h
  refine ⟨F, hD.fr hf (fun k hk e => hD.oth k hk (e ▸ ⟨_, _, _, hh, by decide, by decide⟩)), hF, hb.trans (hf.below hb.size (fun k hk => by omega)), fun _ h => h.elim⟩
theorem res3 {fn : Func} {u p v : Tmp} (h : fn.results = #[.tmp u, .cell p 30, .tmp v]) (tmps : Array Value) (w : World) (g : Nat) (r : R) (sv wv : Value) (hp : tmps.getD p undef = .pointer (some ⟨g, 0, none⟩)) (hr : RB w g r sv wv) :
    (results fn tmps).run Try.prog w = .ok (.tuple #[tmps.getD u undef, rv r sv wv, tmps.getD v undef]) w := by
  have hl := run_loadVar_mid (P := Try.prog) w g 0 30 (rc r sv wv) _ hr.range u30 rfl i30
  have hp' : tmps[p]?.getD undef = .pointer (some ⟨g, 0, none⟩) := by simpa using hp
  simp only [results, h]
  simp [Result.andThen, hp', asAddr, hl, rv, rc]
end Dk
section
variable {w0 w : World} {p : Nat} {s : Dk.S}
theorem write_keep {G : Nat → Prop} {A : Option Addr} {l : List UInt8} {c n : Nat} (i : Int) (hn : l.length = n) (h : Dk.Live w0 (fun _ => False) w p s) (hb : Dk.Bts w G A l) (hG : ∀ k, G k → Dk.Oth w k) (hw : s.wait.length < 100000) (hl : 0 ≤ s.left ∧ s.left ≤ 9223372036854775807) :
    Calls Try.prog 16 #[.pointer (some ⟨p, 0, none⟩), .int .i64 i, .slice A n c] w fun e w' => e = .returned (.int .i64 (s.wcode i l.length)) ∧ Hid (Dk.Live w0 (fun _ => False) w' p (s.write i l)) ∧ Hid (Dk.Keep w w') := by
  subst hn
  obtain ⟨F, hD, hF, hbw, hX⟩ := h.oth
  refine (write_any w p F s i A l c G hD hb (fun k hk hf => (hF k hf).2 (hG k hk)) hw hl.1 hl.2).mono fun e w' ⟨he, HG⟩ => ⟨he, ?_⟩
  obtain ⟨F', hD', hfr, hF'⟩ := HG.out
  refine ⟨⟨F', hD', fun k hk => ⟨?_, fun h => h⟩, hbw.trans (hfr.below hbw.size (fun k hk => (hF k hk).1)), fun _ h => h.elim⟩, fun k hk => hfr.block k hk.lt (fun hf => (hF k hf).2 hk)⟩
  rcases hF' k hk with h1 | h1
  · exact (hF k h1).1
  · exact Nat.le_trans hbw.size h1
theorem flush_keep (h : Dk.Live w0 (fun _ => False) w p s) (hw : s.wait.length < 100000) (hl : 0 ≤ s.left ∧ s.left ≤ 9223372036854775807) :
    Calls Try.prog 23 #[.pointer (some ⟨p, 0, none⟩)] w fun e w' => e = .returned (.int .i64 s.fcode) ∧ Hid (Dk.Live w0 (fun _ => False) w' p s.flush) ∧ Hid (Dk.Keep w w') :=
  (flush_live h.oth hw hl.1 hl.2).mono fun _ _ ⟨he, HL, HS⟩ => ⟨he, HL.out.none, HS.out⟩
theorem fuse_keep (k : Int) (h : Dk.Live w0 (fun _ => False) w p s) :
    Calls Try.prog 24 #[.pointer (some ⟨p, 0, none⟩), .int .i64 k] w fun e w' => e = .returned (.int .i64 (if k < 0 then 1 else if s.down = true then 3 else 0)) ∧
      Hid (Dk.Live w0 (fun _ => False) w' p (if k < 0 then s else if s.down = true then s else { s with fused := true, left := k })) ∧ Hid (Dk.Keep w w') :=
  (fuse_live k h.oth).mono fun _ _ ⟨he, HL, HS⟩ => ⟨he, HL.out.none, HS.out⟩
theorem cut_keep (h : Dk.Live w0 (fun _ => False) w p s) :
    Calls Try.prog 18 #[.pointer (some ⟨p, 0, none⟩)] w fun e w' => e = .returned noResult ∧ Hid (Dk.Live w0 (fun _ => False) w' p { s with down := true }) ∧ Hid (Dk.Keep w w') :=
  (cut_live h.oth).mono fun _ _ ⟨he, HL, HS⟩ => ⟨he, HL.out.none, HS.out⟩
theorem restart_keep {A : Option Addr} {m : List Bool} {c n : Nat} (h : Dk.Live w0 (fun _ => False) w p s) (hb : Dk.Bls w (Dk.Oth w) A m) (hn : m.length = n) (hw : s.wait.length < 100000) :
    Calls Try.prog 19 #[.pointer (some ⟨p, 0, none⟩), .slice A n c] w fun e w' => e = .returned noResult ∧ Hid (Dk.Live w0 (fun _ => False) w' p (s.restart m)) ∧ Hid (Dk.Keep w w') := by
  subst hn
  exact (restart_live h.oth (hb.imp (fun _ h => .inr h)) hw).mono fun _ _ ⟨he, HL, HS⟩ => ⟨he, HL.out.none, HS.out⟩
end
namespace Dk
theorem bls_of_own {w : World} {base g n cap : Nat} {m : List Bool} (hn : n = m.length) (h : w.ownsRow base 4 1 (.slice (some ⟨g, 0, none⟩) n cap) n (m.map Value.bool)) : Bls w (Oth w) (some ⟨g, 0, none⟩) m := fun _ => by
  subst hn
  have hc := World.ownsRow.cells h (g := g) rfl
  rcases h.2 with ⟨h1, _⟩ | ⟨g', cap', cur, h1, _, hh, _⟩
  · cases h1
  · injection h1 with h1
    injection h1 with h1
    injection h1 with h1
    subst h1
    refine ⟨g, 0, rfl, ⟨_, _, _, hh, by decide, by decide⟩, fun j hj => ?_⟩
    have := hc j (.bool m[j]) (by simp [hj])
    rwa [add_plain] at this
section
variable {w : World} {ops : Array Oper} {rest : List Oper} {o : Oper} {a : Act} {Q : Exit → Act → World → Prop}
theorem wpList_appendBytes (hgd : o.guard = none) (s x : Operand) (hop : o.op = .call { callee := .builtin .append, args := #[s, x], argTypes := #[34, 34] }) {W : World} (hW : w = W.alloc (.cells #[] 5)) (hs : a.eval s = .slice (some ⟨W.heap.size, 0, none⟩) 0 0)
    (A : Option Addr) (l : List UInt8) (c : Nat) (hx : a.eval x = .slice A l.length c) {G : Nat → Prop} (hb : Bts W G A l) (hl : l.length ≤ 140737488355328)
    (hK : ∀ g cap w', BO w' g l → W.heap.size ≤ g → Below W.heap.size W w' → wpList Try.prog ops Q rest (a.put o.dst (.slice (some ⟨g, 0, none⟩) l.length cap)) w') : wpList Try.prog ops Q (o :: rest) a w := by
  subst hW
  obtain ⟨g, cap, w', hr, h2, h3⟩ := run_append_empty 34 5 (.int .u8 0) Try.underlying34 u8_info rfl o.type W A l.length c (cells8 l) (length_cells8 l) (fun h0 => by
    obtain ⟨b, off, e, _, hc⟩ := hb h0
    refine ⟨b, off, e, fun j v hv => ?_⟩
    have hj : j < l.length := by
      have := (List.getElem?_eq_some_iff.1 hv).1
      rwa [length_cells8] at this
    rw [get_cells8 l j hj] at hv
    injection hv with hv
    subst hv
    exact hc j hj) (one_cells8 l) hl
  refine wpList_plain hgd fun K hK' => ?_
  unfold Oper.wp execOp
  simp only [hop, resolve, invoke, builtin, Sem.run_bind, Sem.run_pure, Result.andThen_ok, List.map_toArray, List.map_cons, List.map_nil, hs, hx, hr]
  exact hK' _ _ (hK g cap w' (BO.of_own rfl h2) (h2.lt g rfl).1 h3)
theorem wpList_appendBools (hgd : o.guard = none) (s x : Operand) (hop : o.op = .call { callee := .builtin .append, args := #[s, x], argTypes := #[35, 35] }) {W : World} (hW : w = W.alloc (.cells #[] 4)) (hs : a.eval s = .slice (some ⟨W.heap.size, 0, none⟩) 0 0)
    (A : Option Addr) (m : List Bool) (c : Nat) (hx : a.eval x = .slice A m.length c) {G : Nat → Prop} (hb : Bls W G A m) (hl : m.length ≤ 140737488355328)
    (hK : ∀ g cap w', Bls w' (Oth w') (some ⟨g, 0, none⟩) m → Below W.heap.size W w' → wpList Try.prog ops Q rest (a.put o.dst (.slice (some ⟨g, 0, none⟩) m.length cap)) w') : wpList Try.prog ops Q (o :: rest) a w := by
  subst hW
  obtain ⟨g, cap, w', hr, h2, h3⟩ := run_append_empty 35 4 (.bool false) Try.underlying35 bool_info rfl o.type W A m.length c (m.map Value.bool) (by simp) (fun h0 => by
    obtain ⟨b, off, e, _, hc⟩ := hb h0
    refine ⟨b, off, e, fun j v hv => ?_⟩
    have hj : j < m.length := by
      have := (List.getElem?_eq_some_iff.1 hv).1
      simpa using this
    simp [hj] at hv
    subst hv
    exact hc j hj) (by intro v hv; obtain ⟨b, _, rfl⟩ := List.mem_map.1 hv; rfl) hl
  refine wpList_plain hgd fun K hK' => ?_
  unfold Oper.wp execOp
  simp only [hop, resolve, invoke, builtin, Sem.run_bind, Sem.run_pure, Result.andThen_ok, List.map_toArray, List.map_cons, List.map_nil, hs, hx, hr]
  exact hK' _ _ (hK g cap w' (bls_of_own rfl h2) h3)
end
end Dk
namespace Dk
theorem RW.frT {w w' : World} {v : Value} {l : List (Int × List UInt8)} {b : Nat} {cs : Array Value} {e : TypeId} {fr : Nat × Nat} (h : RW w v l) (hb : w.heap[b]? = some (.cells cs e fr)) (he : e ≠ 86) (hf : Fr (· = b) w w') : RW w' v l := by
  have hlt := h.lt
  obtain ⟨h1, h2⟩ := h
  refine ⟨h1, ?_⟩
  rcases h2 with h2 | ⟨g, cap, cur, hv, hg, hh, r⟩
  · exact .inl h2
  · refine .inr ⟨g, cap, cur, hv, hg, ?_, r⟩
    rw [hf.block g (hlt g (by rw [hv]; rfl)).2 (fun q => by rw [q, hb] at hh; injection hh with hh; injection hh with _ hh; exact he hh)]
    exact hh
theorem RR.frT {w w' : World} {r : R} {sv wv : Value} {b : Nat} {cs : Array Value} {e : TypeId} {fr : Nat × Nat} (h : RR w r sv wv) (hb : w.heap[b]? = some (.cells cs e fr)) (he : e ≠ 86) (hf : Fr (· = b) w w') : RR w' r sv wv := ⟨h.1.frT hb he hf, h.2.1.frT hb he hf, h.2.2⟩
theorem Live.frT {w0 w w' : World} {p g : Nat} {s : S} {cs : Array Value} {e : TypeId} {fr : Nat × Nat} (h : Live w0 (fun _ => False) w p s) (hb : w.heap[g]? = some (.cells cs e fr)) (h1 : e ≠ 63) (h2 : e ≠ 77) (hf : Fr (· = g) w w') (hg : w0.heap.size ≤ g) : Live w0 (fun _ => False) w' p s := by
  obtain ⟨F, hD, hF, hbw, _⟩ := h
  refine ⟨F, hD.fr hf (fun k hk e => hD.oth k hk (e ▸ ⟨_, _, _, hb, h1, h2⟩)), hF, hbw.trans (hf.below hbw.size (fun k hk => by omega)), fun _ h => h.elim⟩
theorem Vars.fr {w w' : World} {g g4 g5 g7 : Nat} {r : R} {sv wv : Value} {x : ActD} {Ad Ak : Option Addr} {cd ck : Nat} (h : Vars w g4 g5 g7 r sv wv x Ad Ak cd ck) (hf : Fr (· = g) w w') (h4 : g4 ≠ g) (h5 : g5 ≠ g) (h7 : g7 ≠ g) : Vars w' g4 g5 g7 r sv wv x Ad Ak cd ck := by
  obtain ⟨cs, h1, h2⟩ := h.z
  exact ⟨h.m.kept (hf.block g4 h.m.lt h4), h.a.kept (hf.block g5 h.a.lt h5), cs, h1, (hf.block g7 (lt_of_some h2) h7).trans h2⟩
theorem lay_count (r : R) (i : Int) (d : List UInt8) : (r.lay i d).safe.length + (r.lay i d).wait.length ≤ r.safe.length + r.wait.length + 1 ∧ (r.lay i d).n = r.n := by
  have hn := next_rows r
  have hnn : r.next.n = r.n := by unfold R.next; split <;> (try split) <;> (try split) <;> rfl
  unfold R.lay
  split
  · exact ⟨by omega, rfl⟩
  · split
    · exact ⟨by omega, rfl⟩
    · split
      · exact ⟨by omega, rfl⟩
      · refine ⟨?_, hnn⟩
        show r.next.safe.length + (r.wait ++ [(i, d)]).length ≤ _
        rw [hn.1, List.length_append]
        simp
        omega
theorem flush_count (r : R) : r.flush.safe.length + r.flush.wait.length ≤ r.safe.length + r.wait.length + 1 ∧ r.flush.n = r.n := by
  have hn := next_rows r
  have hnn : r.next.n = r.n := by unfold R.next; split <;> (try split) <;> (try split) <;> rfl
  unfold R.flush
  split
  · refine ⟨?_, hnn⟩
    show (r.safe ++ r.wait).length + 0 ≤ _
    rw [List.length_append]
    omega
  · rw [hn.1, hn.2]
    exact ⟨by omega, hnn⟩
theorem fuse_count (r : R) (k : Int) : (r.fuse k).safe = r.safe ∧ (r.fuse k).wait = r.wait ∧ (r.fuse k).n = r.n := by
  unfold R.fuse
  split
  · exact ⟨rfl, rfl, rfl⟩
  · split <;> exact ⟨rfl, rfl, rfl⟩
theorem restart_count (r : R) (m : List Bool) : (r.restart m).safe.length + (r.restart m).wait.length ≤ r.safe.length + r.wait.length + 1 := by
  have := kept_len r.wait m
  show (r.safe ++ kept r.wait m).length + 0 ≤ _
  rw [List.length_append]
  omega
theorem Bts.dn {w0 w : World} {A : Option Addr} {l : List UInt8} (h : Bts w (· < w0.heap.size) A l) {w' : World} (hb : Below w0.heap.size w0 w) (hb' : Below w.heap.size w w') : Bts w' (· < w0.heap.size) A l := h.kept (fun k hk => hb'.block k (Nat.lt_of_lt_of_le hk hb.size))
theorem Bls.dn {w0 w : World} {A : Option Addr} {l : List Bool} (h : Bls w (· < w0.heap.size) A l) {w' : World} (hb : Below w0.heap.size w0 w) (hb' : Below w.heap.size w w') : Bls w' (· < w0.heap.size) A l := h.kept (fun k hk => hb'.block k (Nat.lt_of_lt_of_le hk hb.size))
end Dk
section
variable {w0 w : World} {p q : Nat} {s t : Dk.S}
theorem clone_keep (h : Dk.Live w0 (fun _ => False) w p s) (hw : s.wait.length < 100000) :
    Calls Try.prog 25 #[.pointer (some ⟨p, 0, none⟩)] w fun e w' => e = .returned (.pointer (some ⟨w.heap.size, 0, none⟩)) ∧ Hid (Dk.Two w0 (fun _ => False) w' p s w.heap.size s) ∧ Below w.heap.size w w' := by
  obtain ⟨F, hD, hF, hbw, hX⟩ := id h
  exact (clone_any w p F s hD hw).mono fun _ _ ⟨he, HB, hb⟩ => ⟨he, Dk.Two.born h HB.out hb, hb⟩
theorem restart2_keep (m : List Bool) {W : World} {n c : Nat} (h : Dk.Two w0 (fun _ => False) w p s q t) (hW : W = w.alloc (.cells (m.map Value.bool).toArray 4)) (hn : n = m.length) (hw : s.wait.length < 100000) :
    Calls Try.prog 19 #[.pointer (some ⟨p, 0, none⟩), .slice (some ⟨w.heap.size, 0, none⟩) n c] W fun e w' => e = .returned noResult ∧ Hid (Dk.Two w0 (fun _ => False) w' p (s.restart m) q t) ∧ Hid (Dk.Keep w w') :=
  (restart2_lit m h.oth hW hn hw).mono fun _ _ ⟨he, HL, HS⟩ => ⟨he, HL.out.none, HS.out⟩
theorem write2_keep {g : Nat} {l : List UInt8} {c : Nat} (i : Int) (h : Dk.Two w0 (fun _ => False) w p s q t) (hR : Dk.Row w g 5 l) (hg : w0.heap.size ≤ g) (hl5 : l.length = 512) (hw : s.wait.length < 100000) (hl : 0 ≤ s.left ∧ s.left ≤ 9223372036854775807) :
    Calls Try.prog 16 #[.pointer (some ⟨p, 0, none⟩), .int .i64 i, .slice (some ⟨g, 0, none⟩) 512 c] w fun e w' => e = .returned (.int .i64 (s.wcode i 512)) ∧ Hid (Dk.Two w0 (fun _ => False) w' p (s.write i l) q t) ∧ Hid (Dk.Keep w w') :=
  (write2 (X := Dk.Oth w) i ⟨h.oth.fewer (fun k hk => hk.elim id (fun e => e ▸ ⟨_, _, _, hR, by decide, by decide⟩)), hR, hg⟩ hl5 hw hl.1 hl.2).mono fun _ _ ⟨he, HL, HS⟩ => ⟨he, HL.out.none, HS.out⟩
theorem flush2_keep (h : Dk.Two w0 (fun _ => False) w p s q t) (hw : s.wait.length < 100000) (hl : 0 ≤ s.left ∧ s.left ≤ 9223372036854775807) :
    Calls Try.prog 23 #[.pointer (some ⟨p, 0, none⟩)] w fun e w' => e = .returned (.int .i64 s.fcode) ∧ Hid (Dk.Two w0 (fun _ => False) w' p s.flush q t) ∧ Hid (Dk.Keep w w') :=
  (flush2 h.oth hw hl.1 hl.2).mono fun _ _ ⟨he, HL, HS⟩ => ⟨he, HL.out.none, HS.out⟩
theorem cut2_keep (h : Dk.Two w0 (fun _ => False) w p s q t) :
    Calls Try.prog 18 #[.pointer (some ⟨p, 0, none⟩)] w fun e w' => e = .returned noResult ∧ Hid (Dk.Two w0 (fun _ => False) w' p { s with down := true } q t) ∧ Hid (Dk.Keep w w') :=
  (cut2 h.oth).mono fun _ _ ⟨he, HL, HS⟩ => ⟨he, HL.out.none, HS.out⟩
end
end Go.Proofs.Ytngpdjkeoodigaa
