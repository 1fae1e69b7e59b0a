/- One of two disks. -/
import Derived.Test.YtngpdjkeoodigaaPlayB
namespace Go.Proofs.Ytngpdjkeoodigaa
open Go.RowKit

namespace Dk
theorem Two.one {w0 w : World} {X : Nat → Prop} {p q : Nat} {s t : S} (h : Two w0 X w p s q t) : Live w0 X w p s := by
  obtain ⟨G, hL, _⟩ := h
  exact hL.fewer (fun _ h => .inl h)
end Dk
end Go.Proofs.Ytngpdjkeoodigaa
