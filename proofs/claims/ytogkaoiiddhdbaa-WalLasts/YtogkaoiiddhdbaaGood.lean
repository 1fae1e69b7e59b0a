/- Logs that are right, and logs that the power left: appended, renewed, opened. No Go text is spoken of here. -/
import Derived.Test.YtogkaoiiddhdbaaStep
namespace Go.Proofs.Ytogkaoiiddhdbaa

namespace Wl
structure Good (n : Nat) (t : L) : Prop where
  ex : ∃ f, Flat t.d f ∧ Inv n t.g t.rs f
  nn : t.d.n = (n : Int)
  up : t.d.down = false
  op : t.closed = false
  rm : t.room = (area n : Int) - (needs t.rs : Int)
  l0 : 0 ≤ t.d.left
  l1 : t.d.left ≤ 9223372036854775807
/-- Whatever is kept of a disk, one of the records A and B is found on it, in a generation from g on; told are generations up to G. -/
def Left (n : Nat) (s : Dk.S) (A B : List (List UInt8)) (g G : Nat) : Prop := s.n = (n : Int) ∧ ∀ keep, ∃ f' gc rs, Flat (s.restart keep) f' ∧ CI n gc rs G f' ∧ g ≤ gc ∧ (rs = A ∨ rs = B)
section
variable {n : Nat} {t : L} {s : Dk.S} {b : List UInt8} {l : List (List UInt8)}
theorem lay_n (l : List (List UInt8)) (s : Dk.S) (a : Nat) (h : 0 ≤ s.left) : (lay s a l).1.n = s.n := (lay_facts l s a h).1
theorem len_pieces (g num : Nat) (r : List UInt8) : ∀ x ∈ pieces g num r, x.length = 512 := fun x hx => by
  obtain ⟨i, _, rfl⟩ := mem_pieces hx
  exact length_piece _ _ _ _
theorem len_all (g : Nat) (l : List (List UInt8)) (num : Nat) : ∀ x ∈ allFrom g num l, x.length = 512 := fun x hx => by
  obtain ⟨_, _, _, e⟩ := mem_allFrom g l num x hx
  rw [e]; exact length_piece _ _ _ _
theorem Good.fit (h : Good n t) : needs t.rs ≤ area n := by
  obtain ⟨f, _, hI⟩ := h.ex
  exact hI.fit
theorem Good.n4 (h : Good n t) : 4 ≤ n := by
  obtain ⟨f, _, hI⟩ := h.ex
  exact hI.n4
theorem Good.place (h : Good n t) : first t.d.n.toNat t.g + area t.d.n.toNat - t.room.toNat = first n t.g + needs t.rs := by
  have := h.fit
  rw [h.nn, h.rm, Int.toNat_natCast]
  omega
theorem append_long (h : t.closed = false) (hb : 8192 < b.length) : t.acode b = 2 ∧ t.append b = t := by
  unfold L.acode L.append
  simp [h, hb]
theorem append_full (h : t.closed = false) (hb : ¬ 8192 < b.length) (hr : t.room < (need b.length : Int)) : t.acode b = 6 ∧ t.append b = t := by
  unfold L.acode L.append
  simp [h, hb, hr]
theorem append_closed (h : t.closed = true) : t.acode b = 7 ∧ t.append b = t := by
  unfold L.acode L.append
  simp [h]
theorem append_fits (h : Good n t) (hb : ¬ 8192 < b.length) (hr : ¬ t.room < (need b.length : Int)) :
    (t.acode b = 0 ∧ Good n (t.append b) ∧ (t.append b).rs = t.rs ++ [b] ∧ (t.append b).g = t.g ∧ (t.append b).d.fused = t.d.fused ∧ (t.append b).room = t.room - need b.length) ∨
    (t.acode b = 3 ∧ t.d.fused = true ∧ (t.append b).closed = true ∧ (t.append b).g = t.g ∧ (t.append b).rs = t.rs ∧ Left n (t.append b).d t.rs (t.rs ++ [b]) t.g t.g ∧ 0 ≤ (t.append b).d.left ∧ (t.append b).d.left ≤ t.d.left ∧ (t.append b).d.down = true) := by
  obtain ⟨f, hF, hI⟩ := h.ex
  have hfit : needs t.rs + need b.length ≤ area n := by have := h.rm; have := h.fit; omega
  have hfl := first_le n t.g h.n4
  have hpl := length_pieces t.g t.rs.length b
  have hc : t.acode b = (lay t.d (first n t.g + needs t.rs) (pieces t.g t.rs.length b)).2 := by
    unfold L.acode
    rw [h.place, if_neg (by simp [h.op]), if_neg hb, if_neg hr]
  have hd : t.append b = if (lay t.d (first n t.g + needs t.rs) (pieces t.g t.rs.length b)).2 = 0 then { t with d := (lay t.d (first n t.g + needs t.rs) (pieces t.g t.rs.length b)).1, rs := t.rs ++ [b], room := t.room - need b.length, closed := false } else { t with d := (lay t.d (first n t.g + needs t.rs) (pieces t.g t.rs.length b)).1, closed := true } := by
    unfold L.append
    rw [h.place, if_neg (by simp [h.op]), if_neg hb, if_neg hr]
  obtain ⟨f1, f2, f3, _⟩ := lay_facts (pieces t.g t.rs.length b) t.d (first n t.g + needs t.rs) h.l0
  have hrun := lay_run hF h.up (first n t.g + needs t.rs) (pieces t.g t.rs.length b) (len_pieces _ _ _) (by rw [hpl, h.nn]; omega)
  rw [hc, hd]
  have hl1 := h.l1
  rcases hrun with ⟨h1, h2, h3, h4⟩ | ⟨h1, h2, h3⟩
  · left
    rw [if_pos h1]
    refine ⟨h1, ⟨⟨_, h4, inv_append hI hfit (by omega)⟩, f1.trans h.nn, h2, rfl, ?_, f2, by simp only; omega⟩, rfl, rfl, h3, rfl⟩
    simp only
    rw [h.rm, needs_append, needs_cons, needs_nil]
    omega
  · right
    have hnz : ¬ (lay t.d (first n t.g + needs t.rs) (pieces t.g t.rs.length b)).2 = 0 := by omega
    rw [if_neg hnz]
    refine ⟨h1, h2, rfl, rfl, rfl, ⟨f1.trans h.nn, fun keep => ?_⟩, f2, f3, ?_⟩
    · obtain ⟨f', g1, g2⟩ := h3 keep
      rcases mix_append hI hfit (by omega) g2 with q | q
      · exact ⟨f', t.g, t.rs, g1, q, Nat.le_refl _, .inl rfl⟩
      · exact ⟨f', t.g, t.rs ++ [b], g1, q, Nat.le_refl _, .inr rfl⟩
    · exact lay_down (s := t.d) hnz h.up (len_pieces _ _ _) (by rw [hpl, h.nn]; omega)
/-- A generation is begun, on sectors on which all generations that are told are older. -/
theorem begin_run {g g' G : Nat} {rs rs' : List (List UInt8)} {f : Nat → List UInt8} (hF : Flat s f) (hnn : s.n = (n : Int)) (hup : s.down = false) (hl0 : 0 ≤ s.left) (hC : CI n g rs G f) (hg : g' < 4294967296) (hold : ∀ k, k < n → tells (f k) = true → gen (f k) < g') (hGg : G ≤ g') (hp : g % 2 ≠ g' % 2) (hfit : needs rs' ≤ area n) (h8 : ∀ r ∈ rs', r.length ≤ 8192) :
    ((begin_ s g' rs').2 = 0 ∧ (begin_ s g' rs').1.down = false ∧ (begin_ s g' rs').1.fused = s.fused ∧ ∃ f', Flat (begin_ s g' rs').1 f' ∧ Inv n g' rs' f') ∨
    ((begin_ s g' rs').2 = 3 ∧ s.fused = true ∧ (begin_ s g' rs').1.down = true ∧ ∀ keep, ∃ f' gc rs'', Flat ((begin_ s g' rs').1.restart keep) f' ∧ CI n gc rs'' g' f' ∧ (gc = g ∧ rs'' = rs ∨ gc = g' ∧ rs'' = rs')) := by
  have hal : (all g' rs').length = needs rs' := length_allFrom g' rs' 0
  have hfl := first_le n g' hC.n4
  have hnt : s.n.toNat = n := by rw [hnn]; simp
  have hm2 : g' % 2 < 2 := Nat.mod_lt _ (by omega)
  have h1 := lay_run hF hup (first n g') (all g' rs') (len_all g' rs' 0) (by rw [hal, hnn]; omega)
  have hgl : g ≤ g' := Nat.le_trans hC.gG hGg
  unfold begin_
  rw [hnt]
  simp only
  rcases h1 with ⟨a1, a2, a3, a4⟩ | ⟨a1, a2, a3⟩
  · rw [if_pos a1]
    obtain ⟨b1, b2, _, _⟩ := lay_facts (all g' rs') s (first n g') hl0
    have hn1 : ((g' % 2 : Nat) : Int) + ([head g'].length : Int) ≤ (lay s (first n g') (all g' rs')).1.n := by rw [b1, hnn]; have := hC.n4; simp; omega
    have h2 := lay_run a4 a2 (g' % 2) [head g'] (fun x hx => by simp at hx; rw [hx]; exact length_head _) hn1
    rcases h2 with ⟨c1, c2, c3, c4⟩ | ⟨c1, c2, c3⟩
    · exact .inl ⟨c1, c2, c3.trans a3, _, c4, inv_begin hg hC.n4 hC.len hold hfit h8⟩
    · right
      refine ⟨c1, a3 ▸ c2, lay_down (by omega) a2 (fun x hx => by simp at hx; rw [hx]; exact length_head _) hn1, fun keep => ?_⟩
      obtain ⟨f', d1, d2⟩ := c3 keep
      rcases mix_head hC hg hold hGg hp hfit h8 d2 with q | q
      · exact ⟨f', g, rs, d1, q, .inl ⟨rfl, rfl⟩⟩
      · exact ⟨f', g', rs', d1, q.ci, .inr ⟨rfl, rfl⟩⟩
  · rw [if_neg (by omega)]
    right
    refine ⟨a1, a2, lay_down (by omega) hup (len_all g' rs' 0) (by rw [hal, hnn]; omega), fun keep => ?_⟩
    obtain ⟨f', d1, d2⟩ := a3 keep
    exact ⟨f', g, rs, d1, mix_begin hC hg hGg hp hfit d2, .inl ⟨rfl, rfl⟩⟩
theorem begin_facts (s : Dk.S) (g : Nat) (l : List (List UInt8)) (h : 0 ≤ s.left) : (begin_ s g l).1.n = s.n ∧ 0 ≤ (begin_ s g l).1.left ∧ (begin_ s g l).1.left ≤ s.left ∧ (begin_ s g l).1.wait.length ≤ s.wait.length + needs l + 1 := by
  obtain ⟨a1, a2, a3, a4⟩ := lay_facts (all g l) s (first s.n.toNat g) h
  have hal : (all g l).length = needs l := length_allFrom g l 0
  unfold begin_
  simp only
  split
  · obtain ⟨b1, b2, b3, b4⟩ := lay_facts [head g] (lay s (first s.n.toNat g) (all g l)).1 (g % 2) a2
    simp only [List.length_cons, List.length_nil] at b4
    exact ⟨b1.trans a1, b2, by omega, by omega⟩
  · exact ⟨a1, a2, a3, by omega⟩
theorem renew_fits (h : Good n t) (hl : l.any (fun b => decide (8192 < b.length)) = false) (hf : needs l ≤ area n) (hg : t.g < 4294967295) :
    (t.rcode l = 0 ∧ Good n (t.renew l) ∧ (t.renew l).rs = l ∧ (t.renew l).g = t.g + 1 ∧ (t.renew l).d.fused = t.d.fused) ∨
    (t.rcode l = 3 ∧ t.d.fused = true ∧ (t.renew l).closed = true ∧ (t.renew l).g = t.g ∧ (t.renew l).rs = t.rs ∧ Left n (t.renew l).d t.rs l t.g (t.g + 1) ∧ 0 ≤ (t.renew l).d.left ∧ (t.renew l).d.left ≤ t.d.left ∧ (t.renew l).d.down = true) := by
  obtain ⟨f, hF, hI⟩ := h.ex
  have hnt : t.d.n.toNat = n := by rw [h.nn]; simp
  have h8 : ∀ r ∈ l, r.length ≤ 8192 := fun r hr => by
    have := List.any_eq_false.1 hl r hr
    simpa using this
  have hc : t.rcode l = (begin_ t.d (t.g + 1) l).2 := by
    unfold L.rcode
    rw [hnt, if_neg (by simp [h.op]), if_neg (by simp [hl]), if_neg (by omega), if_neg (by omega)]
  have hd : t.renew l = t.begin (t.g + 1) l := by
    unfold L.renew
    rw [hnt, if_neg (by simp [h.op]), if_neg (by simp [hl]), if_neg (by omega), if_neg (by omega)]
  obtain ⟨f1, f2, f3, _⟩ := begin_facts t.d (t.g + 1) l h.l0
  have hl1 := h.l1
  have hal : (all (t.g + 1) l).length = needs l := length_allFrom _ l 0
  rw [hc, hd]
  unfold L.begin
  simp only
  rw [hnt, hal]
  rcases begin_run (rs' := l) hF h.nn h.up h.l0 hI.ci (show t.g + 1 < 4294967296 by omega) (fun k hk ht => by have := hI.tl k hk ht; omega) (by omega) (by omega) hf h8 with ⟨a1, a2, a3, f', a4, a5⟩ | ⟨a1, a2, a3, a4⟩
  · left
    rw [if_pos a1]
    exact ⟨a1, ⟨⟨f', a4, a5⟩, f1.trans h.nn, a2, rfl, rfl, f2, by simp only; omega⟩, rfl, rfl, a3⟩
  · right
    rw [if_neg (by omega)]
    refine ⟨a1, a2, rfl, rfl, rfl, ⟨f1.trans h.nn, fun keep => ?_⟩, f2, f3, a3⟩
    obtain ⟨f', gc, rs'', d1, d2, d3⟩ := a4 keep
    rcases d3 with ⟨e1, e2⟩ | ⟨e1, e2⟩
    · exact ⟨f', gc, rs'', d1, d2, by omega, .inl e2⟩
    · exact ⟨f', gc, rs'', d1, d2, by omega, .inr e2⟩
theorem renew_long (h : t.closed = false) (hl : l.any (fun b => decide (8192 < b.length)) = true) : t.rcode l = 2 ∧ t.renew l = t := by
  have hc : ¬ t.closed = true := by simp [h]
  constructor
  · unfold L.rcode
    rw [if_neg hc, if_pos hl]
  · unfold L.renew
    rw [if_neg hc, if_pos hl]
theorem renew_full (h : Good n t) (hl : l.any (fun b => decide (8192 < b.length)) = false) (hf : area n < needs l) : t.rcode l = 6 ∧ t.renew l = t := by
  have hnt : t.d.n.toNat = n := by rw [h.nn]; simp
  have hc : ¬ t.closed = true := by simp [h.op]
  have hl2 : ¬ l.any (fun b => decide (8192 < b.length)) = true := by rw [hl]; simp
  constructor
  · unfold L.rcode
    rw [hnt, if_neg hc, if_neg hl2, if_pos hf]
  · unfold L.renew
    rw [hnt, if_neg hc, if_neg hl2, if_pos hf]
theorem renew_closed (h : t.closed = true) : t.rcode l = 7 ∧ t.renew l = t := by
  unfold L.rcode L.renew
  rw [if_pos h, if_pos h]
  exact ⟨rfl, rfl⟩
/-- A log is opened where one was. -/
theorem open_run {g G : Nat} {rs : List (List UInt8)} {f : Nat → List UInt8} (hF : Flat s f) (hnn : s.n = (n : Int)) (hup : s.down = false) (hl0 : 0 ≤ s.left) (hl1 : s.left ≤ 9223372036854775807) (hC : CI n g rs G f) (hG : G + 2 < 4294967296) :
    ¬ 4294967295 < nextOf s ∧
    (((begin_ s (nextOf s) (found s)).2 = 0 ∧ Good n (opened s) ∧ (opened s).rs = rs ∧ g < (opened s).g ∧ (opened s).g ≤ G + 2 ∧ (opened s).d.fused = s.fused) ∨
     ((begin_ s (nextOf s) (found s)).2 = 3 ∧ s.fused = true ∧ Left n (begin_ s (nextOf s) (found s)).1 rs rs g (G + 2))) := by
  have hnt : s.n.toNat = n := by rw [hnn]; simp
  obtain ⟨n1, n2, n3, n4⟩ := hC.next
  have hfd : found s = rs := by rw [hF.found (by rw [hnt]; exact hC.n4), hnt]; exact hC.fd
  have hnx : nextOf s = nextF f n := by rw [hF.next, hnt]
  rw [hfd, hnx]
  have hgl : G ≤ nextF f n ∨ nextF f n ≤ G := by omega
  obtain ⟨f1, f2, f3, _⟩ := begin_facts s (nextF f n) rs hl0
  have hal : (all (nextF f n) rs).length = needs rs := length_allFrom _ rs 0
  -- a bound on what is told that is no more than the next generation
  have hC' : CI n g rs (nextF f n) f := ⟨by omega, hC.n4, hC.len, hC.now, hC.fd, fun k hk ht => Nat.le_of_lt (n1 k hk ht), Nat.le_of_lt n4, hC.fit, hC.r8⟩
  refine ⟨by omega, ?_⟩
  rcases begin_run (rs' := rs) hF hnn hup hl0 hC' (by omega) n1 (Nat.le_refl _) (fun e => n3 e.symm) hC.fit hC.r8 with ⟨a1, a2, a3, f', a4, a5⟩ | ⟨a1, a2, a3, a4⟩
  · left
    have ho : opened s = { d := (begin_ s (nextF f n) rs).1, g := nextF f n, rs := rs, room := (area n : Int) - (needs rs : Int), closed := false } := by
      unfold opened L.begin
      rw [hfd, hnx]
      show (if (begin_ s (nextF f n) rs).2 = 0 then _ else _) = _
      rw [if_pos a1]
      simp only [opening, hnt, hal]
    rw [ho]
    exact ⟨a1, ⟨⟨f', a4, a5⟩, f1.trans hnn, a2, rfl, rfl, f2, by simp only; omega⟩, rfl, n4, n2, a3⟩
  · right
    refine ⟨a1, a2, f1.trans hnn, fun keep => ?_⟩
    obtain ⟨f', gc, rs'', d1, d2, d3⟩ := a4 keep
    have d2' : CI n gc rs'' (G + 2) f' := ⟨by omega, d2.n4, d2.len, d2.now, d2.fd, fun k hk ht => Nat.le_trans (d2.tl k hk ht) n2, Nat.le_trans d2.gG n2, d2.fit, d2.r8⟩
    rcases d3 with ⟨e1, e2⟩ | ⟨e1, e2⟩
    · exact ⟨f', gc, rs'', d1, d2', by omega, .inl e2⟩
    · exact ⟨f', gc, rs'', d1, d2', by omega, .inl e2⟩
end
end Wl
end Go.Proofs.Ytogkaoiiddhdbaa
