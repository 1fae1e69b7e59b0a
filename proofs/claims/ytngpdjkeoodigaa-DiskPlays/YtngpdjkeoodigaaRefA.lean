/- The document's disk as a value: rows of writes, and what is read of them. -/
import Derived.Test.YtngpdjkeoodigaaTwo
import Derived.Laws.ResultCell
namespace Go.Proofs.Ytngpdjkeoodigaa
open Go.RowKit

namespace Dk
/-- The document's disk. -/
structure R where
  n : Int
  safe : List (Int × List UInt8)
  wait : List (Int × List UInt8)
  armed : Bool
  down : Bool
  after : Int
/-- The cells of a row of the document's writes. -/
def rflat : List (Int × List UInt8) → List Value
  | [] => []
  | x :: r => .int .i64 x.1 :: str x.2 :: rflat r
theorem rflat_append : ∀ (l m : List (Int × List UInt8)), rflat (l ++ m) = rflat l ++ rflat m
  | [], _ => rfl
  | x :: r, m => by simp [rflat, rflat_append r m]
theorem length_rflat : ∀ (l : List (Int × List UInt8)), (rflat l).length = l.length * 2
  | [] => rfl
  | x :: r => by simp [rflat, length_rflat r]; omega
theorem rflat_at : ∀ (l : List (Int × List UInt8)) (i : Nat) (x : Int × List UInt8), l[i]? = some x → (rflat l)[i * 2]? = some (.int .i64 x.1) ∧ (rflat l)[i * 2 + 1]? = some (str x.2)
  | [], i, x, h => by simp at h
  | y :: r, 0, x, h => by
    simp at h
    subst h
    exact ⟨rfl, rfl⟩
  | y :: r, i + 1, x, h => by
    have := rflat_at r i x (by simpa using h)
    rw [show (i + 1) * 2 = i * 2 + 1 + 1 by omega]
    exact ⟨by simpa [rflat] using this.1, by simpa [rflat] using this.2⟩
theorem one_rflat : ∀ (l : List (Int × List UInt8)), ∀ v ∈ rflat l, v.oneCell' = true
  | [], v, h => by simp [rflat] at h
  | x :: r, v, h => by
    simp only [rflat, List.mem_cons] at h
    rcases h with h | h | h
    · subst h; rfl
    · subst h; rfl
    · exact one_rflat r v h
/-- v is a slice of the document's writes l. -/
def RW (w : World) (v : Value) (l : List (Int × List UInt8)) : Prop := w.ownsRow 0 86 2 v l.length (rflat l)
def rv (r : R) (sv wv : Value) : Value := .agg #[.int .i64 r.n, sv, wv, .bool r.armed, .bool r.down, .int .i64 r.after]
section
variable {w w' : World} {v : Value} {l : List (Int × List UInt8)}
theorem RW.below (h : RW w v l) (hb : Below w.heap.size w w') : RW w' v l := by
  have hlt := h.lt
  obtain ⟨h1, h2⟩ := h
  refine ⟨h1, ?_⟩
  rcases h2 with h2 | ⟨g, cap, cur, hv, hg, hh, r⟩
  · exact .inl h2
  · exact .inr ⟨g, cap, cur, hv, hg, (hb.block g (hlt g (by rw [hv]; rfl)).2).trans hh, r⟩
theorem RW.nil (w : World) : RW w (.slice none 0 0) [] := World.ownsRow_nil _ _ _ _
theorem RW.shape (h : RW w v l) : ∃ A cap, v = .slice A l.length cap := by
  obtain ⟨_, h | ⟨g, cap, cur, h, _⟩⟩ := h
  · exact ⟨none, 0, by rw [h.1, h.2]⟩
  · exact ⟨_, _, h⟩
theorem RW.at (h : RW w v l) (i : Nat) (x : Int × List UInt8) (hx : l[i]? = some x) : ∃ g cap, v = .slice (some ⟨g, 0, none⟩) l.length cap ∧ w.cell? ⟨g, i * 2, none⟩ = some (.int .i64 x.1) ∧ w.cell? ⟨g, i * 2 + 1, none⟩ = some (str x.2) := by
  have hlt : i < l.length := (List.getElem?_eq_some_iff.1 hx).1
  have hc := fun g (hg : v.ownBlock = some g) => World.ownsRow.cells h hg
  rcases h.2 with ⟨_, h0⟩ | ⟨g, cap, cur, hv, _⟩
  · omega
  · have hg : v.ownBlock = some g := by rw [hv]; rfl
    have hr := rflat_at l i x hx
    have c0 := hc g hg (i * 2) _ hr.1
    have c1 := hc g hg (i * 2 + 1) _ hr.2
    rw [add_plain, Nat.zero_add] at c0 c1
    exact ⟨g, cap, hv, c0, c1⟩
end
theorem u28 : Try.prog.underlying 28 = some (.slice 86) := by kernel_rfl
theorem i86b : (Try.prog.info? 86).map (fun i => (i.zero, i.size, i.bytes)) = some (some (.agg #[.int .i64 0, .string ⟨#[]⟩]), 2, 24) := by kernel_rfl
/-- append of the document's writes. -/
theorem wpList_appendR {w : World} {ops : Array Oper} {rest : List Oper} {o : Oper} {a : Act} {Q : Exit → Act → World → Prop} (hgd : o.guard = none) (s x : Operand) (hop : o.op = .call { callee := .builtin .append, args := #[s, x], argTypes := #[28, 28] })
    (base : Nat) (v : Value) (l : List (Int × List UInt8)) (hs : a.eval s = v) (hown : w.ownsRow base 86 2 v l.length (rflat l)) (g n c : Nat) (m : List (Int × List UInt8)) (hx : a.eval x = .slice (some ⟨g, 0, none⟩) n c) (hn : n = m.length)
    (hrow : ∀ j u, (rflat m)[j]? = some u → w.cell? ⟨g, j, none⟩ = some u) (hl : l.length + m.length < 100000) (hb : base ≤ w.heap.size)
    (hK : ∀ v' w', w'.ownsRow base 86 2 v' (l ++ m).length (rflat (l ++ m)) → Below base w w' → wpList Try.prog ops Q rest (a.put o.dst v') w') : wpList Try.prog ops Q (o :: rest) a w := by
  subst hn
  obtain ⟨i0, hi0, hz0, hz1, hz2⟩ := info_parts i86b
  refine wpList_append_own _ hgd s x 28 hop base 86 i0 _ 2 24 u28 hi0 hz0 hz1 hz2 rfl (by omega) v l.length (rflat l) hs hown ⟨g, 0, none⟩ m.length c (rflat m) hx (length_rflat m) (fun j u hu => by rw [add_plain, Nat.zero_add]; exact hrow j u hu) (one_rflat m) (by unfold maxLen; omega) (by omega) hb ?_
  intro v' w' h1 h2 _
  refine hK v' w' ?_ ((Below.refl base w).grown h2 hb (fun k hk => (hown.lt k hk).1))
  rw [rflat_append, List.length_append]
  exact h1
def rget (r : R) (k : Int) : List UInt8 := match lastW r.wait k with
  | some b => b
  | none => match lastW r.safe k with
    | some b => b
    | none => zeros
/-- noughts, n of them. -/
def zb (n : Nat) : ByteArray := ⟨(List.replicate n 0).toArray⟩
theorem zb_size (n : Nat) : (zb n).size = n := by simp [zb, ByteArray.size]
theorem zb_append (n m : Nat) : zb n ++ zb m = zb (n + m) := by
  apply ByteArray.ext
  rw [ByteArray.data_append]
  simp [zb]
theorem zb_512 : zb 512 = ⟨zeros.toArray⟩ := rfl
end Dk
set_option maxRecDepth 100000 in
theorem rzeros (w : World) : Calls Try.prog 45 #[] w fun e w' => e = .returned (.string ⟨Dk.zeros.toArray⟩) ∧ w = w' := by
  have h1 : (⟨#[0]⟩ : ByteArray) = Dk.zb 1 := rfl
  go_enter Try.func45, Try.ntmps45
  go_wp2
  go_loopw [1] (fun v wr => ∃ n : Nat, (n = 1 ∨ n = 2 ∨ n = 4 ∨ n = 8 ∨ n = 16 ∨ n = 32 ∨ n = 64 ∨ n = 128 ∨ n = 256 ∨ n = 512) ∧ v = .string (Dk.zb n) ∧ wr = w) (fun v _ => 512 - (match v with | .string s => s.size | _ => 0))
  case atStart => exact ⟨1, .inl rfl, rfl, rfl⟩
  case round =>
    obtain ⟨n, hn, rfl, rfl⟩ := hrel
    by_cases h : n < 512
    · have hz := Dk.zb_size n
      have HZ := Lib.hid (Dk.zb_append n n)
      have HN := Lib.hid hn
      have hle : n ≤ 256 := by omega
      clear hn h1
      go_wp2
      go_roundw
      case rel => exact ⟨n + n, by have := HN.out; omega, by rw [HZ.out], by first | rfl | trivial⟩
      case measure => rw [HZ.out]; simp [Dk.zb_size]; have := HN.out; omega
    · have e : n = 512 := by omega
      subst e
      have hz := Dk.zb_size 512
      have HZ := Lib.hid Dk.zb_512
      clear hn h1
      go_wp2
      go_ret
      exact ⟨by rw [← HZ.out]; rfl, rfl⟩
namespace Dk
theorem lastW_take_miss {l : List (Int × List UInt8)} {k : Nat} {i : Int} {x : Int × List UInt8} (hx : l[k]? = some x) (hne : x.1 ≠ i) (h : lastW l i = lastW (l.take (k + 1)) i) : lastW l i = lastW (l.take k) i := by
  rw [h, take_snoc l k x hx, lastW_snoc, if_neg hne]
theorem lastW_take_hit {l : List (Int × List UInt8)} {k : Nat} {i : Int} {x : Int × List UInt8} (hx : l[k]? = some x) (he : x.1 = i) (h : lastW l i = lastW (l.take (k + 1)) i) : lastW l i = some x.2 := by
  rw [h, take_snoc l k x hx, lastW_snoc, if_pos he]
def lastV (o : Option (List UInt8)) : Value := match o with
  | some b => .tuple #[str b, .bool true]
  | none => .tuple #[.string ⟨#[]⟩, .bool false]
end Dk
theorem rlast (w : World) (v : Value) (l : List (Int × List UInt8)) (i : Int) (h : Dk.RW w v l) (hl : l.length < 100000) :
    Calls Try.prog 44 #[v, .int .i64 i] w fun e w' => e = .returned (Dk.lastV (Dk.lastW l i)) ∧ w = w' := by
  obtain ⟨A, cap, rfl⟩ := h.shape
  have H := Lib.hid h
  clear h
  go_enter Try.func44, Try.ntmps44
  go_wp2
  go_loopw [6] (fun a wr => ∃ k : Nat, k ≤ l.length ∧ a = .int .i64 ((k : Int) - 1) ∧ wr = w ∧ Hid (Dk.lastW l i = Dk.lastW (l.take k) i)) (fun a _ => ((intOf a) + 1).toNat)
  case atStart => exact ⟨l.length, Nat.le_refl _, rfl, rfl, by rw [List.take_length]; rfl⟩
  case round =>
    obtain ⟨k, hk, rfl, rfl, HK⟩ := hrel
    cases k with
    | zero =>
      have HE : Hid (Dk.lastV (Dk.lastW l i) = .tuple #[.string ⟨#[]⟩, .bool false]) := by rw [HK.out]; rfl
      go_wp2
      go_ret2
      exact ⟨by rw [HE.out]; rfl, rfl⟩
    | succ k =>
      obtain ⟨x, hx⟩ : ∃ x, l[k]? = some x := ⟨_, List.getElem?_eq_getElem (by omega)⟩
      obtain ⟨g, cap', hv, c0, c1⟩ := H.out.at k x hx
      injection hv with hA _ hC
      subst hA
      have e1 : ((k + 1 : Nat) : Int) - 1 = (k : Int) := by omega
      rw [e1]
      have HX := Lib.hid hx
      unfold Dk.str at c1
      clear hx e1
      by_cases he : x.1 = i
      · have HE : Hid (Dk.lastV (Dk.lastW l i) = .tuple #[.string ⟨x.2.toArray⟩, .bool true]) := by rw [Dk.lastW_take_hit HX.out he HK.out]; rfl
        have b : (x.1 == i) = true := by simp [he]
        clear he
        go_wp2
        go_ret2
        exact ⟨by rw [HE.out]; rfl, rfl⟩
      · have HN : Hid (Dk.lastW l i = Dk.lastW (l.take k) i) := Dk.lastW_take_miss HX.out he HK.out
        have b : (x.1 == i) = false := beq_eq_false_iff_ne.2 he
        clear he
        go_wp2
        go_roundw
        case rel => exact ⟨k, by omega, by go_num, by first | rfl | trivial, HN⟩
        case measure => simp [intOf]
end Go.Proofs.Ytngpdjkeoodigaa
