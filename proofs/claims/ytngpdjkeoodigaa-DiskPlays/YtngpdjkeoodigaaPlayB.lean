/- What holds inside play between two steps. -/
import Derived.Test.YtngpdjkeoodigaaPlayA
namespace Go.Proofs.Ytngpdjkeoodigaa
open Go.RowKit

namespace Dk
theorem Live.bel {w0 w : World} {X : Nat → Prop} {p : Nat} {s : S} (h : Live w0 X w p s) : Below w0.heap.size w0 w := by
  obtain ⟨_, _, _, hb, _⟩ := h
  exact hb
theorem Keep.fr {w w6 w7 : World} {g : Nat} (h : Keep w w6) (hf : Fr (· = g) w6 w7) (hg : w.heap.size ≤ g) : Keep w w7 := fun k hk => by
  have e := h k hk
  have hlt := hk.lt
  obtain ⟨cs, el, fr, h1, _⟩ := hk
  exact (hf.block k (lt_of_some (e.trans h1)) (by omega)).trans e
/-- What a call of play is handed. -/
structure Pre (w0 w : World) (p : Nat) (s : S) (r : R) (sv wv : Value) (x : ActD) (Ad Ak : Option Addr) : Prop where
  live : Live w0 (fun _ => False) w p s
  rr : RR w r sv wv
  rel : Rel s r
  cnt : r.safe.length + r.wait.length ≤ 1000
  dat : Bts w (· < w0.heap.size) Ad x.data
  kep : Bls w (· < w0.heap.size) Ak x.keep
  ld : x.data.length ≤ 140737488355328
  lk : x.keep.length ≤ 140737488355328
  xn : x.n ≤ 9223372036854775807
/-- Between two steps of play. -/
structure St (w0 w : World) (wc : World) (g4 g5 g7 p : Nat) (s : S) (r : R) (sv wv : Value) (x : ActD) (Ad Ak : Option Addr) (cd ck : Nat) : Prop where
  vars : Vars wc g4 g5 g7 r sv wv x Ad Ak cd ck
  live : Live w0 (fun _ => False) wc p s
  rr : RR wc r sv wv
  kp : Keep w wc
  dat : Bts wc (· < w0.heap.size) Ad x.data
  kep : Bls wc (· < w0.heap.size) Ak x.keep
  h4 : w0.heap.size ≤ g4 ∧ w.heap.size ≤ g4
  h7 : w0.heap.size ≤ g7 ∧ w.heap.size ≤ g7
  ne : g5 ≠ g4 ∧ g7 ≠ g4
/-- What a call of play gives. -/
def Post (w0 w : World) (r : R) (e : Ending) (w' : World) : Prop := ∃ p' s' r' sv' wv', e = .returned (.tuple #[.pointer (some ⟨p', 0, none⟩), rv r' sv' wv', .bool true]) ∧ Hid (Live w0 (fun _ => False) w' p' s') ∧ Hid (RR w' r' sv' wv') ∧ Hid (Rel s' r') ∧ Hid (Keep w w') ∧ r'.safe.length + r'.wait.length ≤ r.safe.length + r.wait.length + 1 ∧ r'.n = r.n
section
variable {w0 w wc w' : World} {g4 g5 g7 p : Nat} {s : S} {r : R} {sv wv : Value} {x : ActD} {Ad Ak : Option Addr} {cd ck : Nat}
theorem St.below (h : St w0 w wc g4 g5 g7 p s r sv wv x Ad Ak cd ck) (hb : Below wc.heap.size wc w') : St w0 w w' g4 g5 g7 p s r sv wv x Ad Ak cd ck :=
  ⟨h.vars.keep (Keep.below hb), (h.live.below hb).1, h.rr.below hb, h.kp.trans (Keep.below hb), h.dat.dn h.live.bel hb, h.kep.dn h.live.bel hb, h.h4, h.h7, h.ne⟩
theorem St.drew (h : St w0 w wc g4 g5 g7 p s r sv wv x Ad Ak cd ck) : St w0 w wc.drew g4 g5 g7 p s r sv wv x Ad Ak cd ck := h.below (Below.refl _ _).drew
theorem St.disk (h : St w0 w wc g4 g5 g7 p s r sv wv x Ad Ak cd ck) {p' : Nat} {s' : S} (hl : Live w0 (fun _ => False) w' p' s') (hk : Keep wc w') : St w0 w w' g4 g5 g7 p' s' r sv wv x Ad Ak cd ck :=
  have e : ∀ k, k < w0.heap.size → w'.heap[k]? = wc.heap[k]? := fun k hq => (hl.bel.block k hq).trans (h.live.bel.block k hq).symm
  ⟨h.vars.keep hk, hl, h.rr.keep hk, h.kp.trans hk, h.dat.kept e, h.kep.kept e, h.h4, h.h7, h.ne⟩
theorem St.put (h : St w0 w wc g4 g5 g7 p s r sv wv x Ad Ak cd ck) {r' : R} {sv' wv' : Value} (hr : RR wc r' sv' wv') (hm : RB w' g4 r' sv' wv') (hf : Fr (· = g4) wc w') : St w0 w w' g4 g5 g7 p s r' sv' wv' x Ad Ak cd ck := by
  have hl := h.live.frT h.vars.m (by decide) (by decide) hf h.h4.1
  have e : ∀ k, k < w0.heap.size → w'.heap[k]? = wc.heap[k]? := fun k hq => (hl.bel.block k hq).trans (h.live.bel.block k hq).symm
  exact ⟨h.vars.set hm hf h.ne.1 h.ne.2, hl, hr.frT h.vars.m (by decide) hf, h.kp.fr hf h.h4.2, h.dat.kept e, h.kep.kept e, h.h4, h.h7, h.ne⟩
theorem St.row (h : St w0 w wc g4 g5 g7 p s r sv wv x Ad Ak cd ck) {g n : Nat} (hr : Room wc g n) (hf : Fr (· = g) wc w') (hg : w0.heap.size ≤ g ∧ w.heap.size ≤ g) (hn : g4 ≠ g ∧ g5 ≠ g ∧ g7 ≠ g) : St w0 w w' g4 g5 g7 p s r sv wv x Ad Ak cd ck := by
  have hl := h.live.row hr hf hg.1
  have e : ∀ k, k < w0.heap.size → w'.heap[k]? = wc.heap[k]? := fun k hq => (hl.bel.block k hq).trans (h.live.bel.block k hq).symm
  obtain ⟨cur, hh, _⟩ := hr
  exact ⟨h.vars.fr hf hn.1 hn.2.1 hn.2.2, hl, h.rr.frT hh (by decide) hf, h.kp.fr hf hg.2, h.dat.kept e, h.kep.kept e, h.h4, h.h7, h.ne⟩
theorem St.fin (h : St w0 w wc g4 g5 g7 p s r sv wv x Ad Ak cd ck) (hf : Fr (· = g7) wc w') : Live w0 (fun _ => False) w' p s ∧ RR w' r sv wv ∧ Keep w w' := by
  obtain ⟨cs, _, hz⟩ := h.vars.z
  exact ⟨h.live.frT hz (by decide) (by decide) hf h.h7.1, h.rr.frT hz (by decide) hf, h.kp.fr hf h.h7.2⟩
theorem St.start {w1 w2 w3 : World} {p : Nat} (h : Pre w0 w p s r sv wv x Ad Ak) (hr1 : RB w1 w.heap.size r sv wv) (hb1 : Below w.heap.size w w1) (hs1 : w.heap.size < w1.heap.size) (ha2 : AB w2 w1.heap.size x Ad Ak cd ck) (hb2 : Below w1.heap.size w1 w2) (hs2 : w1.heap.size < w2.heap.size) (hz3 : w3.heap[w2.heap.size]? = some (.cells zero30.toArray 30 (0, 0))) (hb3 : Below w2.heap.size w2 w3) :
    St w0 w w3 w.heap.size w1.heap.size w2.heap.size p s r sv wv x Ad Ak cd ck := by
  have hb : Below w.heap.size w w3 := (hb1.trans (hb2.mono hb1.size)).trans (hb3.mono (by omega))
  have h0 := h.live.bel.size
  exact ⟨⟨(hr1.below hb2).below hb3, ha2.kept (hb3.block _ ha2.lt), zero30, rfl, hz3⟩, (h.live.below hb).1, h.rr.below hb, Keep.below hb, h.dat.dn h.live.bel hb, h.kep.dn h.live.bel hb, ⟨h0, Nat.le_refl _⟩, ⟨by omega, by omega⟩, ⟨by omega, by omega⟩⟩
end
end Dk
end Go.Proofs.Ytngpdjkeoodigaa
