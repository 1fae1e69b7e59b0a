/- Contracts of the small functions of disk. -/
import Derived.Test.YtogkaoiiddhdbaaRep
namespace Go.Proofs.Ytogkaoiiddhdbaa
open Go.RowKit

theorem has_any (w : World) (p a c : Nat) (v : Value) (s : Dk.S) (i : Int) (h : Dk.At w p a c v s) :
    Calls Try.prog 63 #[.pointer (some ⟨p, 0, none⟩), .int .i64 i] w fun e w' => e = .returned (.bool (s.has i)) ∧ w = w' := by
  have c0 := h.c0
  clear h
  unfold Dk.S.has
  go_enter Try.func63, Try.ntmps63
  by_cases h0 : 0 ≤ i
  · by_cases h1 : i < s.n
    · rw [decide_eq_true h0, decide_eq_true h1]
      go_wp2
      go_ret
      exact ⟨rfl, rfl⟩
    · rw [decide_eq_true h0, decide_eq_false h1]
      go_wp2
      go_ret
      exact ⟨rfl, rfl⟩
  · rw [decide_eq_false h0]
    go_wp2
    go_ret
    exact ⟨rfl, rfl⟩

theorem size_any (w : World) (p a c : Nat) (v : Value) (s : Dk.S) (h : Dk.At w p a c v s) :
    Calls Try.prog 48 #[.pointer (some ⟨p, 0, none⟩)] w fun e w' => e = .returned (.int .i64 s.n) ∧ w = w' := by
  have c0 := h.c0
  clear h
  go_enter Try.func48, Try.ntmps48
  go_wp2
  go_ret
  exact ⟨rfl, rfl⟩
theorem down_any (w : World) (p a c : Nat) (v : Value) (s : Dk.S) (h : Dk.At w p a c v s) :
    Calls Try.prog 81 #[.pointer (some ⟨p, 0, none⟩)] w fun e w' => e = .returned (.bool s.down) ∧ w = w' := by
  have c0 := h.c4
  clear h
  go_enter Try.func81, Try.ntmps81
  go_wp2
  go_ret
  exact ⟨rfl, rfl⟩
theorem Dk.slice_of (w : World) (v : Value) (n : Nat) (xs : List Value) (h : w.ownsRow 0 122 513 v n xs) : ∃ A cap, v = .slice A n cap := by
  obtain ⟨_, h | ⟨g, cap, cur, h, _⟩⟩ := h
  · exact ⟨none, 0, by rw [h.1, h.2]⟩
  · exact ⟨_, _, h⟩
theorem waiting_any (w : World) (p a c : Nat) (v : Value) (s : Dk.S) (h : Dk.At w p a c v s) :
    Calls Try.prog 82 #[.pointer (some ⟨p, 0, none⟩)] w fun e w' => e = .returned (.int .i64 (s.wait.length : Int)) ∧ w = w' := by
  have c0 := h.c2
  obtain ⟨A, cap, e⟩ := Dk.slice_of _ _ _ _ h.row
  rw [e] at c0
  clear e h
  go_enter Try.func82, Try.ntmps82
  go_wp2
  go_ret
  exact ⟨rfl, rfl⟩
theorem cut_any (w : World) (p a c : Nat) (v : Value) (s : Dk.S) (h : Dk.At w p a c v s) :
    Calls Try.prog 36 #[.pointer (some ⟨p, 0, none⟩)] w fun e w' => e = .returned noResult ∧ Hid (Dk.At w' p a c v { s with down := true }) ∧ Dk.Fr (Dk.Own p a c v) w w' := by
  have c0 := h.c4
  have f0 := h.free 4
  have H : Hid (Dk.At (w.setCell ⟨p, 4, none⟩ (.bool true)) p a c v { s with down := true }) := h.set 4 _ _ rfl rfl rfl
  have G : Dk.Fr (Dk.Own p a c v) w (w.setCell ⟨p, 4, none⟩ (.bool true)) := Dk.Fr.setCell w (.inl rfl) _
  clear h
  go_enter Try.func36, Try.ntmps36
  go_wp2
  go_end0
  exact ⟨rfl, H, G⟩
theorem burn_any (w : World) (p a c : Nat) (v : Value) (s : Dk.S) (h : Dk.At w p a c v s) (hl : 0 ≤ s.left) (hl2 : s.left ≤ 9223372036854775807) :
    Calls Try.prog 64 #[.pointer (some ⟨p, 0, none⟩)] w fun e w' => e = .returned noResult ∧ Hid (Dk.At w' p a c v s.burn) ∧ Dk.Fr (Dk.Own p a c v) w w' := by
  have c4 := h.c4
  have c5 := h.c5
  have c6 := h.c6
  have f4 := h.free 4
  have f6 := h.free 6
  have hH := Lib.hid h
  clear h
  unfold Dk.S.burn
  by_cases hf : s.fused = false
  · rw [if_pos hf]
    have G := Dk.Fr.refl (Dk.Own p a c v) w
    rw [hf] at c5
    clear hf c4 c6 f4 f6
    go_enter Try.func64, Try.ntmps64
    go_wp2
    (try simp only [Exit.inBlock, Exit.then])
    refine bodyPost_ret (results_none rfl _ _ _) rfl ?_
    exact ⟨rfl, hH, G⟩
  · rw [if_neg hf]
    have ht : s.fused = true := by simpa using hf
    rw [ht] at c5
    by_cases h0 : s.left = 0
    · rw [if_pos h0]
      have H : Hid (Dk.At (w.setCell ⟨p, 4, none⟩ (.bool true)) p a c v { s with down := true }) := hH.out.set 4 _ _ rfl rfl rfl
      have G : Dk.Fr (Dk.Own p a c v) w (w.setCell ⟨p, 4, none⟩ (.bool true)) := Dk.Fr.setCell w (.inl rfl) _
      rw [h0] at c6
      clear hf ht h0 hl hl2 hH
      go_enter Try.func64, Try.ntmps64
      go_wp2
      go_end0
      exact ⟨rfl, H, G⟩
    · rw [if_neg h0]
      have H : Hid (Dk.At (w.setCell ⟨p, 6, none⟩ (.int .i64 (s.left - 1))) p a c v { s with left := s.left - 1 }) := hH.out.set 6 _ _ rfl rfl rfl
      have G : Dk.Fr (Dk.Own p a c v) w (w.setCell ⟨p, 6, none⟩ (.int .i64 (s.left - 1))) := Dk.Fr.setCell w (.inl rfl) _
      clear hf ht hH
      go_enter Try.func64, Try.ntmps64
      go_wp2
      go_end0
      exact ⟨rfl, H, G⟩
theorem fuse_any (w : World) (p a c : Nat) (v : Value) (s : Dk.S) (k : Int) (h : Dk.At w p a c v s) :
    Calls Try.prog 26 #[.pointer (some ⟨p, 0, none⟩), .int .i64 k] w fun e w' => e = .returned (.int .i64 (if k < 0 then 1 else if s.down = true then 3 else 0)) ∧
      Hid (Dk.At w' p a c v (if k < 0 then s else if s.down = true then s else { s with fused := true, left := k })) ∧ Dk.Fr (Dk.Own p a c v) w w' := by
  have c4 := h.c4
  have c5 := h.c5
  have c6 := h.c6
  have f5 := h.free 5
  have f6 := h.free 6
  have G0 := Dk.Fr.refl (Dk.Own p a c v) w
  have hH := Lib.hid h
  clear h
  by_cases hk : k < 0
  · rw [if_pos hk, if_pos hk]
    go_enter Try.func26, Try.ntmps26
    go_wp2
    go_ret
    exact ⟨rfl, hH, G0⟩
  · rw [if_neg hk, if_neg hk]
    by_cases hd : s.down = true
    · rw [if_pos hd, if_pos hd]
      rw [hd] at c4
      clear hd
      go_enter Try.func26, Try.ntmps26
      go_wp2
      go_ret
      exact ⟨rfl, hH, G0⟩
    · rw [if_neg hd, if_neg hd]
      have hd' : s.down = false := by simpa using hd
      rw [hd'] at c4
      have H1 := hH.out.set 5 (.bool true) { s with fused := true } rfl rfl rfl
      have H2 : Hid (Dk.At ((w.setCell ⟨p, 5, none⟩ (.bool true)).setCell ⟨p, 6, none⟩ (.int .i64 k)) p a c v { s with fused := true, left := k }) := H1.set 6 _ _ rfl rfl rfl
      have G : Dk.Fr (Dk.Own p a c v) w ((w.setCell ⟨p, 5, none⟩ (.bool true)).setCell ⟨p, 6, none⟩ (.int .i64 k)) :=
        (Dk.Fr.setCell w (.inl rfl) _).trans (Dk.Fr.setCell _ (.inl rfl) _) (fun _ _ h => h)
      clear hd hd' hH H1
      go_enter Try.func26, Try.ntmps26
      go_wp2
      go_ret
      exact ⟨rfl, H2, G⟩
end Go.Proofs.Ytogkaoiiddhdbaa
