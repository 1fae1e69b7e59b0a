/- Reading a time: what two digits are; contract of ReadClock. -/
import Derived.Test.YtgmcmidddhpbcaaDoorText
namespace Go.Proofs.YtgmcmidddhpbcaaDoor
open Go.RowKit
set_option linter.unusedVariables false

namespace Dt
theorem two_inj : ∀ n < 100, ∀ m < 100, two n = two m → n = m := by
  intro n hn m hm h
  have h1 : (UInt8.ofNat (48 + n / 10)).toNat = (UInt8.ofNat (48 + m / 10)).toNat := by
    have := congrArg (fun s : ByteArray => s.data[0]?) h
    simpa [two] using congrArg (fun o : Option UInt8 => (o.getD 0).toNat) this
  have h2 : (UInt8.ofNat (48 + n % 10)).toNat = (UInt8.ofNat (48 + m % 10)).toNat := by
    have := congrArg (fun s : ByteArray => s.data[1]?) h
    simpa [two] using congrArg (fun o : Option UInt8 => (o.getD 0).toNat) this
  rw [UInt8.toNat_ofNat', UInt8.toNat_ofNat'] at h1 h2
  omega
theorem size_two {p : ByteArray} (h : p.size = 2) : ∃ a b : UInt8, p = ⟨#[a, b]⟩ := by
  obtain ⟨⟨l⟩⟩ := p
  match l, h with
  | [a, b], _ => exact ⟨a, b, rfl⟩
theorem two_of {a b : UInt8} (h1 : 48 ≤ a.toNat) (h2 : a.toNat ≤ 57) (h3 : 48 ≤ b.toNat) (h4 : b.toNat ≤ 57) : (⟨#[a, b]⟩ : ByteArray) = two ((a.toNat - 48) * 10 + (b.toNat - 48)) := by
  unfold two
  have e1 : a = UInt8.ofNat (48 + ((a.toNat - 48) * 10 + (b.toNat - 48)) / 10) := by
    apply UInt8.toNat_inj.1; rw [UInt8.toNat_ofNat']; omega
  have e2 : b = UInt8.ofNat (48 + ((a.toNat - 48) * 10 + (b.toNat - 48)) % 10) := by
    apply UInt8.toNat_inj.1; rw [UInt8.toNat_ofNat']; omega
  rw [← e1, ← e2]
theorem app_left {p q : ByteArray} {n : Nat} (h : p.size = n) : (p ++ q).extract 0 n = p := by
  subst h; exact ByteArray.extract_append_eq_left rfl
theorem app_right {p q : ByteArray} {n m : Nat} (h : p.size = n) (h' : n + q.size = m) : (p ++ q).extract n m = q := by
  subst h; exact ByteArray.extract_append_eq_right rfl (by omega)
theorem halves {s : ByteArray} {n k : Nat} (h : s.size = n) (hk : k ≤ n) : s = s.extract 0 k ++ s.extract k n := by
  subst h
  rw [ByteArray.extract_append_extract]
  simp [Nat.max_eq_right hk]
end Dt

theorem readPair_ok (p : ByteArray) (n : Nat) (w : World) (hp : p = Dt.two n) (hn : n < 100) : Calls Tryd.prog 28 #[.string p] w fun e w' => e = .returned (.tuple #[.int .i64 (n : Int), .bool true]) ∧ Below w.heap.size w w' := by
  subst hp
  have := readPair_yes (Dt.two n) (48 + n / 10) (48 + n % 10) w rfl (fun h => show (UInt8.ofNat (48 + n / 10)).toNat = _ by rw [UInt8.toNat_ofNat']; omega) (fun h => show (UInt8.ofNat (48 + n % 10)).toNat = _ by rw [UInt8.toNat_ofNat']; omega) (by omega) (by omega) (by omega) (by omega)
  rwa [show (48 + n / 10 - 48) * 10 + (48 + n % 10 - 48) = n by omega] at this
theorem readPair_bad (p : ByteArray) (w : World) (hp : p.size = 2) (h : ∀ n < 100, p ≠ Dt.two n) : Calls Tryd.prog 28 #[.string p] w fun e w' => e = .returned (.tuple #[.int .i64 0, .bool false]) ∧ Below w.heap.size w w' := by
  obtain ⟨a, b, rfl⟩ := Dt.size_two hp
  refine readPair_no _ a.toNat b.toNat w rfl (fun _ => rfl) (fun _ => rfl) a.toNat_lt b.toNat_lt fun ⟨u1, u2, u3, u4⟩ => ?_
  exact h _ (by omega) (Dt.two_of u1 u2 u3 u4)
theorem readPair_some (p : ByteArray) (hp : p.size = 2) : ∃ (v : Int) (b : Bool), ∀ w, Calls Tryd.prog 28 #[.string p] w fun e w' => e = .returned (.tuple #[.int .i64 v, .bool b]) ∧ Below w.heap.size w w' := by
  by_cases h : ∃ n, n < 100 ∧ p = Dt.two n
  · obtain ⟨n, hn, h⟩ := h
    exact ⟨_, _, fun w => readPair_ok p n w h hn⟩
  · exact ⟨_, _, fun w => readPair_bad p w hp fun n hn e => h ⟨n, hn, e⟩⟩

theorem readClock_size (s : ByteArray) (w : World) (hs : s.size ≤ maxLen) (h : s.size ≠ 4) : Calls Tryd.prog 17 #[.string s] w fun e w' => e = .returned (.tuple #[.int .i64 0, .bool false]) ∧ Below w.heap.size w w' := by
  have hi : ((s.size : Int) == 4) = false := by simp; omega
  unfold maxLen at hs
  go_enter Tryd.func17, Tryd.ntmps17
  go_wp2
  go_ret2
  exact ⟨rfl, Below.refl _ _⟩
theorem readClock_core (s p q : ByteArray) (w : World) (hs : s.size = 4) (h1 : s.extract 0 2 = p) (h2 : s.extract 2 4 = q) (a b : Int) (x y : Bool)
    (HP : Hid (∀ t w, t = p → Calls Tryd.prog 28 #[.string t] w fun e w' => e = .returned (.tuple #[.int .i64 a, .bool x]) ∧ Below w.heap.size w w'))
    (HQ : Hid (∀ t w, t = q → Calls Tryd.prog 28 #[.string t] w fun e w' => e = .returned (.tuple #[.int .i64 b, .bool y]) ∧ Below w.heap.size w w'))
    (r : Int) (o : Bool) (ha : 0 ≤ a) (ha' : a < 100) (hb : 0 ≤ b) (hb' : b < 100) (h : (x = true ∧ y = true ∧ a < 24 ∧ b < 60 ∧ r = a * 60 + b ∧ o = true) ∨ (o = false ∧ r = 0 ∧ (x = false ∨ (x = true ∧ y = false) ∨ (x = true ∧ y = true ∧ 24 ≤ a) ∨ (x = true ∧ y = true ∧ a < 24 ∧ 60 ≤ b)))) :
    Calls Tryd.prog 17 #[.string s] w fun e w' => e = .returned (.tuple #[.int .i64 r, .bool o]) ∧ Below w.heap.size w w' := by
  rcases h with ⟨rfl, rfl, u1, u2, rfl, rfl⟩ | ⟨rfl, rfl, rfl | ⟨rfl, rfl⟩ | ⟨rfl, rfl, u1⟩ | ⟨rfl, rfl, u1, u2⟩⟩
  all_goals go_enter Tryd.func17, Tryd.ntmps17
  all_goals go_wp2_with (first
    | (go_at_call 28; refine (HP.out _ _ (by with_reducible rfl)).mono ?_; rintro e w1 ⟨rfl, hb1⟩)
    | (go_at_call 28; refine (HQ.out _ _ (by with_reducible rfl)).mono ?_; rintro e w2 ⟨rfl, hb2⟩))
  all_goals go_ret2
  all_goals exact ⟨by first | rfl | go_num, hb1.trans (hb2.mono hb1.size)⟩
theorem readClock_yes (n : Nat) (w : World) (h : n < 1440) : Calls Tryd.prog 17 #[.string (Dt.clk n)] w fun e w' => e = .returned (.tuple #[.int .i64 (n : Int), .bool true]) ∧ Below w.heap.size w w' := by
  refine readClock_core (Dt.clk n) _ _ w rfl (Dt.app_left rfl) (Dt.app_right rfl rfl) ((n / 60 : Nat) : Int) ((n % 60 : Nat) : Int) true true
    (fun t w ht => readPair_ok t _ w ht (by omega)) (fun t w ht => readPair_ok t _ w ht (by omega)) n true (by omega) (by omega) (by omega) (by omega) (Or.inl ⟨rfl, rfl, by omega, by omega, by omega, rfl⟩)
theorem readClock_no (s : ByteArray) (w : World) (hs : s.size ≤ maxLen) (h : ∀ n < 1440, s ≠ Dt.clk n) : Calls Tryd.prog 17 #[.string s] w fun e w' => e = .returned (.tuple #[.int .i64 0, .bool false]) ∧ Below w.heap.size w w' := by
  by_cases h4 : s.size = 4
  · have hsp := Dt.halves (k := 2) h4 (by omega)
    have z1 : (s.extract 0 2).size = 2 := by rw [ByteArray.size_extract]; omega
    have z2 : (s.extract 2 4).size = 2 := by rw [ByteArray.size_extract]; omega
    by_cases hp : ∃ n, n < 100 ∧ s.extract 0 2 = Dt.two n
    · obtain ⟨a, ha, ea⟩ := hp
      by_cases hq : ∃ n, n < 100 ∧ s.extract 2 4 = Dt.two n
      · obtain ⟨b, hb, eb⟩ := hq
        refine readClock_core s _ _ w h4 rfl rfl (a : Int) (b : Int) true true (fun t w ht => readPair_ok t _ w (ht.trans ea) ha) (fun t w ht => readPair_ok t _ w (ht.trans eb) hb) 0 false (by omega) (by omega) (by omega) (by omega) (Or.inr ⟨rfl, rfl, ?_⟩)
        rcases Nat.lt_or_ge a 24 with h1 | h1
        · rcases Nat.lt_or_ge b 60 with h2 | h2
          · exfalso
            apply h (a * 60 + b) (by omega)
            rw [hsp, ea, eb]
            unfold Dt.clk
            rw [show (a * 60 + b) / 60 = a by omega, show (a * 60 + b) % 60 = b by omega]
          · exact Or.inr (Or.inr (Or.inr ⟨rfl, rfl, by omega, by omega⟩))
        · exact Or.inr (Or.inr (Or.inl ⟨rfl, rfl, by omega⟩))
      · exact readClock_core s _ _ w h4 rfl rfl (a : Int) 0 true false (fun t w ht => readPair_ok t _ w (ht.trans ea) ha) (fun t w ht => readPair_bad t w (ht ▸ z2) fun n hn e => hq ⟨n, hn, ht.symm.trans e⟩) 0 false (by omega) (by omega) (by omega) (by omega) (Or.inr ⟨rfl, rfl, Or.inr (Or.inl ⟨rfl, rfl⟩)⟩)
    · by_cases hq : ∃ n, n < 100 ∧ s.extract 2 4 = Dt.two n
      · obtain ⟨b, hb, eb⟩ := hq
        exact readClock_core s _ _ w h4 rfl rfl 0 (b : Int) false true (fun t w ht => readPair_bad t w (ht ▸ z1) fun n hn e => hp ⟨n, hn, ht.symm.trans e⟩) (fun t w ht => readPair_ok t _ w (ht.trans eb) hb) 0 false (by omega) (by omega) (by omega) (by omega) (Or.inr ⟨rfl, rfl, Or.inl rfl⟩)
      · exact readClock_core s _ _ w h4 rfl rfl 0 0 false false (fun t w ht => readPair_bad t w (ht ▸ z1) fun n hn e => hp ⟨n, hn, ht.symm.trans e⟩) (fun t w ht => readPair_bad t w (ht ▸ z2) fun n hn e => hq ⟨n, hn, ht.symm.trans e⟩) 0 false (by omega) (by omega) (by omega) (by omega) (Or.inr ⟨rfl, rfl, Or.inl rfl⟩)
  · exact readClock_size s w hs h4
end Go.Proofs.YtgmcmidddhpbcaaDoor
