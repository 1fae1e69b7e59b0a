/-
  No cell of these rows narrows 'for every input' (looked for: loops, veiled, ifaces, maps, wideKeys, modest, calm, conditions, laid).
  DERIVED. THE GIVEN ROWS OF THIS SEAT. 4 by the template 'for every input the law returns true; each argument reads behind the call as it read before'; 0 by the template 'total and deterministic' (their statements: YtnkplbpaobggkaaTotals.lean).
  GIVEN WITH THE SEED: the statements are not yours to turn. If you find one false, say at which input.
  Laid BY PROGRAM, IN A SANDBOX (cutbox-rows.mjs): the forced cells as the released guide's own fill.sh prints them over the translation dcc6ad6f927ed568… (all of the seat's roots in one cut). By AI agents, Wed Nov 11 2026. No macro, syntax, notation, axiom, sorry.
-/
import Derived.Test.YtnkplbpaobggkaaChecked
import GoSem.Claim
import GoSem.ClaimJoined
import GoSem.ClaimMapViews
import Derived.JoinedTies
import Derived.KernelRfl
namespace Go.Proofs.Ytnkplbpaobggkaa
/- THE CELL 'sum', in the pinned program and in every row, IS THE sha256 OF THE DUMP (.gsa) THAT YtnkplbpaobggkaaProg.lean LOADS. Nothing in Lean hashes anything: it is a label: what it is worth is what the hold of that sum in a sandbox is worth. -/
noncomputable def Try.pinned : Pinned := { name := "ytnkplbpaobggkaa", sum := "dcc6ad6f927ed568640f6348f9d3adba7e40cb10a9f4c8c82a3c80ff52d48b06", checked := Try.checked }
namespace Rows
def none {H : Type} : Left H := { results := [], args := [] }

/-- 'jetwaylaw07.LocatorTexts': WHATEVER THE INPUT: true; the input reads as it did. -/
def locatorTextsSpec : ChangeSpec := { name := "locatorTexts", fn := fun _ => fun
  | [d] => { results := [.lit (.bool true)], args := [d] }
  | _ => none }
def locatorTextsRow : OpenClaim := { program := "ytnkplbpaobggkaa", sum := "dcc6ad6f927ed568640f6348f9d3adba7e40cb10a9f4c8c82a3c80ff52d48b06", func := "jetway/jetwaylaw07.LocatorTexts", spec := "locatorTexts", apart := false }
def LocatorTextsSaid : Prop := locatorTextsRow.holds Try.pinned (OpenSpec.ofChange locatorTextsSpec)

/-- ITS FALSE NEIGHBOUR: 'it returns false'. Refute it at one input. -/
def locatorTextsWrong : ChangeSpec := { name := "locatorTexts", fn := fun _ => fun
  | [d] => { results := [.lit (.bool false)], args := [d] }
  | _ => none }
def LocatorTextsWrongFalsely : Prop := locatorTextsRow.holds Try.pinned (OpenSpec.ofChange locatorTextsWrong)

/-- 'jetwaylaw07.LocatorReads': WHATEVER THE INPUT: true; the input reads as it did. -/
def locatorReadsSpec : ChangeSpec := { name := "locatorReads", fn := fun _ => fun
  | [d] => { results := [.lit (.bool true)], args := [d] }
  | _ => none }
def locatorReadsRow : OpenClaim := { program := "ytnkplbpaobggkaa", sum := "dcc6ad6f927ed568640f6348f9d3adba7e40cb10a9f4c8c82a3c80ff52d48b06", func := "jetway/jetwaylaw07.LocatorReads", spec := "locatorReads", apart := false }
def LocatorReadsSaid : Prop := locatorReadsRow.holds Try.pinned (OpenSpec.ofChange locatorReadsSpec)

/-- ITS FALSE NEIGHBOUR: 'it returns false'. Refute it at one input. -/
def locatorReadsWrong : ChangeSpec := { name := "locatorReads", fn := fun _ => fun
  | [d] => { results := [.lit (.bool false)], args := [d] }
  | _ => none }
def LocatorReadsWrongFalsely : Prop := locatorReadsRow.holds Try.pinned (OpenSpec.ofChange locatorReadsWrong)

/-- 'jetwaylaw07.LocatorUnlike': WHATEVER THE INPUT: true; the input reads as it did. -/
def locatorUnlikeSpec : ChangeSpec := { name := "locatorUnlike", fn := fun _ => fun
  | [d1, d2] => { results := [.lit (.bool true)], args := [d1, d2] }
  | _ => none }
def locatorUnlikeRow : OpenClaim := { program := "ytnkplbpaobggkaa", sum := "dcc6ad6f927ed568640f6348f9d3adba7e40cb10a9f4c8c82a3c80ff52d48b06", func := "jetway/jetwaylaw07.LocatorUnlike", spec := "locatorUnlike", apart := false }
def LocatorUnlikeSaid : Prop := locatorUnlikeRow.holds Try.pinned (OpenSpec.ofChange locatorUnlikeSpec)

/-- ITS FALSE NEIGHBOUR: 'it returns false'. Refute it at one input. -/
def locatorUnlikeWrong : ChangeSpec := { name := "locatorUnlike", fn := fun _ => fun
  | [d1, d2] => { results := [.lit (.bool false)], args := [d1, d2] }
  | _ => none }
def LocatorUnlikeWrongFalsely : Prop := locatorUnlikeRow.holds Try.pinned (OpenSpec.ofChange locatorUnlikeWrong)

/-- 'jetwaylaw07.LocatorSums': WHATEVER THE INPUT: true; the input reads as it did. -/
def locatorSumsSpec : ChangeSpec := { name := "locatorSums", fn := fun _ => fun
  | [d1, d2, d3] => { results := [.lit (.bool true)], args := [d1, d2, d3] }
  | _ => none }
def locatorSumsRow : OpenClaim := { program := "ytnkplbpaobggkaa", sum := "dcc6ad6f927ed568640f6348f9d3adba7e40cb10a9f4c8c82a3c80ff52d48b06", func := "jetway/jetwaylaw07.LocatorSums", spec := "locatorSums", apart := false }
def LocatorSumsSaid : Prop := locatorSumsRow.holds Try.pinned (OpenSpec.ofChange locatorSumsSpec)

/-- ITS FALSE NEIGHBOUR: 'it returns false'. Refute it at one input. -/
def locatorSumsWrong : ChangeSpec := { name := "locatorSums", fn := fun _ => fun
  | [d1, d2, d3] => { results := [.lit (.bool false)], args := [d1, d2, d3] }
  | _ => none }
def LocatorSumsWrongFalsely : Prop := locatorSumsRow.holds Try.pinned (OpenSpec.ofChange locatorSumsWrong)

/- THE SECOND FORM. 'bulk': how many values and letters a reading holds, each counted each time it is reached (what is shared counts as often as it is met; a slice's spare places count too). A statement '..UptoSaid' is the law's where the arguments, and the package variables that the reading takes, are together of bulk at most 1048576: NARROWER than '..Said'. Prove '..Said' where nothing that the law and all that it calls make is longer than what came in: it says more and counts as full. Else prove '..UptoSaid'. A law counts once. -/
mutual
def uptoBulk {H : Type} : DataW H → Nat
  | .lit (.string bytes) => bytes.length + 1
  | .lit _ => 1
  | .nil => 1
  | .ptr d => uptoBulk d + 1
  | .slice elems spare => uptoBulkAll elems + uptoBulkAll spare + 1
  | .agg parts => uptoBulkAll parts + 1
  | .iface _ d => uptoBulk d + 1
  | .map entries => uptoBulkEntries entries + 1
  | .held _ => 1
def uptoBulkAll {H : Type} : List (DataW H) → Nat
  | [] => 0
  | d :: r => uptoBulk d + uptoBulkAll r
def uptoBulkEntries {H : Type} : List (Lit × DataW H) → Nat
  | [] => 0
  | x :: r => uptoBulkEntry x + uptoBulkEntries r
def uptoBulkEntry {H : Type} : Lit × DataW H → Nat
  | (.string bytes, d) => bytes.length + uptoBulk d + 1
  | (_, d) => uptoBulk d + 1
 end
def uptoSmall : (H : Type) → List (DataW H) → Bool := fun _ ds => decide (uptoBulkAll ds ≤ 1048576)
def OpenSpec.upto (s : _root_.Go.ChangeSpec) : _root_.Go.OpenSpec := { _root_.Go.OpenSpec.ofChange s with cond := some uptoSmall }

/-- 'jetwaylaw07.LocatorTexts', WHERE WHAT IT READS IS OF BULK AT MOST 1048576: true; the input reads as it did. -/
def locatorTextsUptoRow : OpenClaim := { program := "ytnkplbpaobggkaa", sum := "dcc6ad6f927ed568640f6348f9d3adba7e40cb10a9f4c8c82a3c80ff52d48b06", func := "jetway/jetwaylaw07.LocatorTexts", spec := "locatorTexts", apart := false, narrowed := true }
def LocatorTextsUptoSaid : Prop := locatorTextsUptoRow.holds Try.pinned (OpenSpec.upto locatorTextsSpec)

/-- 'jetwaylaw07.LocatorReads', WHERE WHAT IT READS IS OF BULK AT MOST 1048576: true; the input reads as it did. -/
def locatorReadsUptoRow : OpenClaim := { program := "ytnkplbpaobggkaa", sum := "dcc6ad6f927ed568640f6348f9d3adba7e40cb10a9f4c8c82a3c80ff52d48b06", func := "jetway/jetwaylaw07.LocatorReads", spec := "locatorReads", apart := false, narrowed := true }
def LocatorReadsUptoSaid : Prop := locatorReadsUptoRow.holds Try.pinned (OpenSpec.upto locatorReadsSpec)

/-- 'jetwaylaw07.LocatorUnlike', WHERE WHAT IT READS IS OF BULK AT MOST 1048576: true; the input reads as it did. -/
def locatorUnlikeUptoRow : OpenClaim := { program := "ytnkplbpaobggkaa", sum := "dcc6ad6f927ed568640f6348f9d3adba7e40cb10a9f4c8c82a3c80ff52d48b06", func := "jetway/jetwaylaw07.LocatorUnlike", spec := "locatorUnlike", apart := false, narrowed := true }
def LocatorUnlikeUptoSaid : Prop := locatorUnlikeUptoRow.holds Try.pinned (OpenSpec.upto locatorUnlikeSpec)

/-- 'jetwaylaw07.LocatorSums', WHERE WHAT IT READS IS OF BULK AT MOST 1048576: true; the input reads as it did. -/
def locatorSumsUptoRow : OpenClaim := { program := "ytnkplbpaobggkaa", sum := "dcc6ad6f927ed568640f6348f9d3adba7e40cb10a9f4c8c82a3c80ff52d48b06", func := "jetway/jetwaylaw07.LocatorSums", spec := "locatorSums", apart := false, narrowed := true }
def LocatorSumsUptoSaid : Prop := locatorSumsUptoRow.holds Try.pinned (OpenSpec.upto locatorSumsSpec)

end Rows
end Go.Proofs.Ytnkplbpaobggkaa
