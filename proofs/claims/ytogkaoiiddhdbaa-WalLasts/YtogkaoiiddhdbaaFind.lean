/- What is found on sectors: heads, pieces, records, generations. No Go text is spoken of here. -/
import Derived.Test.YtogkaoiiddhdbaaFlat
namespace Go.Proofs.Ytogkaoiiddhdbaa

namespace Wl
open Wd (putL valB crc)
theorem valB_append (l m : List UInt8) : valB (l ++ m) = valB l * 256 ^ m.length + valB m := by
  have key : ∀ (m : List UInt8) (a : Nat), m.foldl (fun n c => n * 256 + c.toNat) a = a * 256 ^ m.length + m.foldl (fun n c => n * 256 + c.toNat) 0 := by
    intro m
    induction m with
    | nil => intro a; simp
    | cons c m ih =>
      intro a
      rw [List.foldl_cons, ih, List.foldl_cons, ih (0 * 256 + c.toNat), List.length_cons, Nat.pow_succ]
      simp only [Nat.zero_mul, Nat.zero_add, Nat.add_mul]
      rw [Nat.mul_assoc, Nat.mul_comm 256, Nat.add_assoc]
  unfold valB
  rw [List.foldl_append, key]
theorem valB_putL (n : Nat) : ∀ k, valB (putL n k) = n % 256 ^ k
  | 0 => by simp [putL, valB, Nat.mod_one]
  | k + 1 => by
    have h : putL n (k + 1) = [UInt8.ofNat (n / 256 ^ k)] ++ putL n k := rfl
    rw [h, valB_append, valB_putL n k, Wd.length_putL]
    have h2 : valB [UInt8.ofNat (n / 256 ^ k)] = n / 256 ^ k % 256 := by simp [valB]
    rw [h2, Nat.pow_succ, Nat.mod_mul, Nat.add_comm, Nat.mul_comm]
theorem part_left (l m : List UInt8) (a n : Nat) (h : a + n ≤ l.length) : Wd.part (l ++ m) a n = Wd.part l a n := by
  unfold Wd.part
  rw [List.drop_append_of_le_length (by omega), List.take_append_of_le_length (by simp; omega)]
theorem part_right (l m : List UInt8) (a n : Nat) (h : a = l.length) (hn : n = m.length) : Wd.part (l ++ m) a n = m := by
  subst h hn
  unfold Wd.part
  rw [List.drop_left, List.take_length]
theorem part_mid (l m r : List UInt8) (a n : Nat) (h : a = l.length) (hn : n = m.length) : Wd.part (l ++ m ++ r) a n = m := by
  rw [part_left _ _ _ _ (by simp; omega)]
  exact part_right l m a n h hn
theorem crc_lt (l : List UInt8) : crc l < 4294967296 := by unfold Wd.crc; omega
theorem seal_take {l : List UInt8} (h : l.length ≤ 508) : (sealed l).take 508 = fill l := by
  unfold sealed
  rw [List.take_append_of_le_length (by rw [length_fill h]; exact Nat.le_refl _), List.take_of_length_le (by rw [length_fill h]; exact Nat.le_refl _)]
theorem seal_sum {l : List UInt8} (h : l.length ≤ 508) : valB (Wd.part (sealed l) 508 4) = crc ((sealed l).take 508) := by
  rw [seal_take h]
  unfold sealed
  rw [part_right _ _ _ _ (length_fill h).symm (Wd.length_putL _ _).symm, valB_putL]
  have := crc_lt (fill l)
  exact Nat.mod_eq_of_lt (by omega)
theorem seal_part {l : List UInt8} (a n : Nat) (h : l.length ≤ 508) (han : a + n ≤ l.length) : Wd.part (sealed l) a n = Wd.part l a n := by
  unfold sealed
  rw [part_left _ _ _ _ (by rw [length_fill h]; omega)]
  unfold fill
  exact part_left _ _ _ _ han
theorem seal_getD {l : List UInt8} (x : UInt8) (r : List UInt8) (e : l = x :: r) : (sealed l).getD 0 0 = x := by
  subst e
  rfl
theorem head_tells (g : Nat) : tells (head g) = true := by
  unfold tells
  have h : ([1] ++ putL g 4 : List UInt8).length ≤ 508 := by simp [Wd.length_putL]
  have h1 : (head g).getD 0 0 = 1 := seal_getD 1 _ rfl
  have h2 : valB (Wd.part (head g) 508 4) = crc ((head g).take 508) := seal_sum h
  rw [h1, h2]
  simp
theorem head_gen (g : Nat) (hg : g < 4294967296) : gen (head g) = g := by
  unfold gen head
  rw [seal_part 1 4 (by simp [Wd.length_putL]) (by simp [Wd.length_putL]), part_right _ _ _ _ (by simp) (Wd.length_putL _ _).symm, valB_putL]
  exact Nat.mod_eq_of_lt (by omega)
theorem piece_len (g num i : Nat) (r : List UInt8) : (front g num i (need r.length) r.length ++ body r i).length ≤ 508 := by
  have := length_body r i
  rw [List.length_append, length_front]
  omega
theorem piece_tells (g num i : Nat) (r : List UInt8) : tells (piece g num i r) = true := by
  unfold tells
  have h1 : (piece g num i r).getD 0 0 = 2 := seal_getD 2 _ rfl
  have h2 : valB (Wd.part (piece g num i r) 508 4) = crc ((piece g num i r).take 508) := seal_sum (piece_len g num i r)
  rw [h1, h2]
  simp
theorem piece_gen (g num i : Nat) (r : List UInt8) (hg : g < 4294967296) : gen (piece g num i r) = g := by
  unfold gen piece
  rw [seal_part 1 4 (piece_len g num i r) (by simp [length_front]; omega)]
  have e : front g num i (need r.length) r.length ++ body r i = [2] ++ putL g 4 ++ (putL num 4 ++ putL i 2 ++ putL (need r.length) 2 ++ putL r.length 4 ++ body r i) := by simp [front]
  rw [e, part_mid _ _ _ _ _ (by simp) (Wd.length_putL _ _).symm, valB_putL]
  exact Nat.mod_eq_of_lt (by omega)
theorem piece_lenAt (g num i : Nat) (r : List UInt8) (hr : r.length ≤ 8192) : lenAt (piece g num i r) = r.length := by
  unfold lenAt piece
  rw [seal_part 13 4 (piece_len g num i r) (by simp [length_front])]
  have e : front g num i (need r.length) r.length ++ body r i = ([2] ++ putL g 4 ++ putL num 4 ++ putL i 2 ++ putL (need r.length) 2) ++ putL r.length 4 ++ body r i := by simp [front]
  rw [e, part_mid _ _ _ _ _ (by simp [Wd.length_putL]) (Wd.length_putL _ _).symm, valB_putL]
  exact Nat.mod_eq_of_lt (by omega)
theorem piece_body (g num i : Nat) (r : List UInt8) : Wd.part (piece g num i r) 17 491 = body r i ++ nul (491 - (body r i).length) := by
  have hb := length_body r i
  have hf : fill (front g num i (need r.length) r.length ++ body r i) = front g num i (need r.length) r.length ++ (body r i ++ nul (491 - (body r i).length)) := by
    unfold fill
    rw [List.append_assoc, List.length_append, length_front, show 508 - (17 + (body r i).length) = 491 - (body r i).length by omega]
  unfold piece sealed
  rw [hf, part_mid _ _ _ _ _ (length_front _ _ _ _ _).symm (by simp [length_nul]; omega)]
theorem mem_pieces {g num : Nat} {r x : List UInt8} (h : x ∈ pieces g num r) : ∃ i, i < need r.length ∧ x = piece g num i r := by
  simp only [pieces, List.mem_map, List.mem_range] at h
  obtain ⟨i, hi, rfl⟩ := h
  exact ⟨i, hi, rfl⟩
theorem take_pieces_len (g num : Nat) (r : List UInt8) (k : Nat) (h : k ≤ need r.length) : (bodies ((pieces g num r).take k)).length = k * 491 := by
  rw [length_bodies _ (fun s hs => by
    obtain ⟨i, _, rfl⟩ := mem_pieces (List.mem_of_mem_take hs)
    exact length_piece _ _ _ _), List.length_take, length_pieces]
  omega
/-- The bytes of the first k pieces. -/
theorem bodies_pieces (g num : Nat) (r : List UInt8) : ∀ k, k ≤ need r.length → (bodies ((pieces g num r).take k)).take r.length = r.take (k * 491)
  | 0, _ => by simp [bodies]
  | k + 1, h => by
    have ih := bodies_pieces g num r k (by omega)
    have hk : k * 491 ≤ r.length := by unfold need at h; omega
    have hl : (bodies ((pieces g num r).take k)).length = k * 491 := by
      have e := take_pieces_len g num r k (by omega)
      exact e
    rw [← take_pieces g num r k (by omega)]
    unfold bodies at *
    rw [List.map_append, List.flatten_append, List.take_append, hl, ih]
    simp only [List.map_cons, List.map_nil, List.flatten_cons, List.flatten_nil, List.append_nil]
    rw [piece_body, List.take_append, Nat.add_mul, Nat.one_mul, List.take_add]
    congr 1
    unfold body
    by_cases hz : (k + 1) * 491 ≤ r.length
    · have h1 : ((r.drop (k * 491)).take 491).length = 491 := by simp; omega
      rw [h1, Nat.sub_self, show nul 0 = [] from rfl, List.take_nil, List.append_nil, List.take_of_length_le (by rw [h1]; omega)]
    · have h1 : ((r.drop (k * 491)).take 491).length = r.length - k * 491 := by simp; omega
      rw [h1, Nat.sub_self, List.take_zero, List.append_nil, List.take_of_length_le (by rw [h1]; omega)]
end Wl
end Go.Proofs.Ytogkaoiiddhdbaa
