/-
  No cell of these rows narrows 'for every input' (looked for: loops, veiled, ifaces, maps, wideKeys, modest, calm, conditions, laid).
  DERIVED. THE GIVEN ROWS OF THIS SEAT. 2 by the template 'for every input the law returns true; each argument reads behind the call as it read before'; 0 by the template 'total and deterministic' (their statements: YtmapijbfnakdiaaGreatTotals.lean).
  GIVEN WITH THE SEED: the statements are not yours to turn. If you find one false, say at which input.
  Laid BY PROGRAM, IN A SANDBOX (cutbox-rows.mjs): the forced cells as the released guide's own fill.sh prints them over the translation 96668e7c07f20977… (all of the seat's roots in one cut). By AI agents, Wed Nov 11 2026. No macro, syntax, notation, axiom, sorry.
-/
import Derived.Test.YtmapijbfnakdiaaGreatChecked
import GoSem.Claim
import GoSem.ClaimJoined
import GoSem.ClaimMapViews
import Derived.JoinedTies
import Derived.KernelRfl
namespace Go.Proofs.YtmapijbfnakdiaaGreat
/- THE CELL 'sum', in the pinned program and in every row, IS THE sha256 OF THE DUMP (.gsa) THAT YtmapijbfnakdiaaGreatProg.lean LOADS. Nothing in Lean hashes anything: it is a label: what it is worth is what the hold of that sum in a sandbox is worth. -/
noncomputable def Tryz.pinned : Pinned := { name := "ytmapijbfnakdiaagreat", sum := "96668e7c07f20977de0a3acde30739b060c55c88d781e767c91bd47b7cde8e13", checked := Tryz.checked }
namespace Rows
def none {H : Type} : Left H := { results := [], args := [] }

/-- 'quietuslaw13.GrowParts': WHATEVER THE INPUT: true; the input reads as it did. -/
def growPartsSpec : ChangeSpec := { name := "growParts", fn := fun _ => fun
  | [d1, d2] => { results := [.lit (.bool true)], args := [d1, d2] }
  | _ => none }
def growPartsRow : OpenClaim := { program := "ytmapijbfnakdiaagreat", sum := "96668e7c07f20977de0a3acde30739b060c55c88d781e767c91bd47b7cde8e13", func := "quietus/quietuslaw13.GrowParts", spec := "growParts", unfollowed := true, recurses := true, apart := false }
def GrowPartsSaid : Prop := growPartsRow.holds Tryz.pinned (OpenSpec.ofChange growPartsSpec)

/-- ITS FALSE NEIGHBOUR: 'it returns false'. Refute it at one input. -/
def growPartsWrong : ChangeSpec := { name := "growParts", fn := fun _ => fun
  | [d1, d2] => { results := [.lit (.bool false)], args := [d1, d2] }
  | _ => none }
def GrowPartsWrongFalsely : Prop := growPartsRow.holds Tryz.pinned (OpenSpec.ofChange growPartsWrong)

/-- 'quietuslaw13.GrowMeets': WHATEVER THE INPUT: true; the input reads as it did. -/
def growMeetsSpec : ChangeSpec := { name := "growMeets", fn := fun _ => fun
  | [d1, d2, d3, d4, d5] => { results := [.lit (.bool true)], args := [d1, d2, d3, d4, d5] }
  | _ => none }
def growMeetsRow : OpenClaim := { program := "ytmapijbfnakdiaagreat", sum := "96668e7c07f20977de0a3acde30739b060c55c88d781e767c91bd47b7cde8e13", func := "quietus/quietuslaw13.GrowMeets", spec := "growMeets", unfollowed := true, recurses := true, apart := false }
def GrowMeetsSaid : Prop := growMeetsRow.holds Tryz.pinned (OpenSpec.ofChange growMeetsSpec)

/-- ITS FALSE NEIGHBOUR: 'it returns false'. Refute it at one input. -/
def growMeetsWrong : ChangeSpec := { name := "growMeets", fn := fun _ => fun
  | [d1, d2, d3, d4, d5] => { results := [.lit (.bool false)], args := [d1, d2, d3, d4, d5] }
  | _ => none }
def GrowMeetsWrongFalsely : Prop := growMeetsRow.holds Tryz.pinned (OpenSpec.ofChange growMeetsWrong)

/- THE SECOND FORM. 'bulk': how many values and letters a reading holds, each counted each time it is reached (what is shared counts as often as it is met; a slice's spare places count too). A statement '..UptoSaid' is the law's where the arguments, and the package variables that the reading takes, are together of bulk at most 1048576: NARROWER than '..Said'. Prove '..Said' where nothing that the law and all that it calls make is longer than what came in: it says more and counts as full. Else prove '..UptoSaid'. A law counts once. -/
mutual
def uptoBulk {H : Type} : DataW H → Nat
  | .lit (.string bytes) => bytes.length + 1
  | .lit _ => 1
  | .nil => 1
  | .ptr d => uptoBulk d + 1
  | .slice elems spare => uptoBulkAll elems + uptoBulkAll spare + 1
  | .agg parts => uptoBulkAll parts + 1
  | .iface _ d => uptoBulk d + 1
  | .map entries => uptoBulkEntries entries + 1
  | .held _ => 1
def uptoBulkAll {H : Type} : List (DataW H) → Nat
  | [] => 0
  | d :: r => uptoBulk d + uptoBulkAll r
def uptoBulkEntries {H : Type} : List (Lit × DataW H) → Nat
  | [] => 0
  | x :: r => uptoBulkEntry x + uptoBulkEntries r
def uptoBulkEntry {H : Type} : Lit × DataW H → Nat
  | (.string bytes, d) => bytes.length + uptoBulk d + 1
  | (_, d) => uptoBulk d + 1
 end
def uptoSmall : (H : Type) → List (DataW H) → Bool := fun _ ds => decide (uptoBulkAll ds ≤ 1048576)
def OpenSpec.upto (s : _root_.Go.ChangeSpec) : _root_.Go.OpenSpec := { _root_.Go.OpenSpec.ofChange s with cond := some uptoSmall }

/-- 'quietuslaw13.GrowParts', WHERE WHAT IT READS IS OF BULK AT MOST 1048576: true; the input reads as it did. -/
def growPartsUptoRow : OpenClaim := { program := "ytmapijbfnakdiaagreat", sum := "96668e7c07f20977de0a3acde30739b060c55c88d781e767c91bd47b7cde8e13", func := "quietus/quietuslaw13.GrowParts", spec := "growParts", unfollowed := true, recurses := true, apart := false, narrowed := true }
def GrowPartsUptoSaid : Prop := growPartsUptoRow.holds Tryz.pinned (OpenSpec.upto growPartsSpec)

/-- 'quietuslaw13.GrowMeets', WHERE WHAT IT READS IS OF BULK AT MOST 1048576: true; the input reads as it did. -/
def growMeetsUptoRow : OpenClaim := { program := "ytmapijbfnakdiaagreat", sum := "96668e7c07f20977de0a3acde30739b060c55c88d781e767c91bd47b7cde8e13", func := "quietus/quietuslaw13.GrowMeets", spec := "growMeets", unfollowed := true, recurses := true, apart := false, narrowed := true }
def GrowMeetsUptoSaid : Prop := growMeetsUptoRow.holds Tryz.pinned (OpenSpec.upto growMeetsSpec)

end Rows
end Go.Proofs.YtmapijbfnakdiaaGreat
