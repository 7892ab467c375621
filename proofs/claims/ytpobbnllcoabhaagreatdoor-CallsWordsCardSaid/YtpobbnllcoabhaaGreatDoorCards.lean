/-
  DERIVED. GIVEN WITH THE SEED: THE CARDS: each row of YtpobbnllcoabhaaGreatDoorRows.lean that lists a variable, with what it lists TIED to the program's text (the seventh form; the later family's looks); each row that meets fmt, with fmt's text TOLD by the authors' own Lean function (tested against real Go, not proved from fmt's source: count such statements apart). THE CARD IS WHAT COUNTS. Prove the row's statement (the work); the ties are given (YtpobbnllcoabhaaGreatDoorTie.lean); close each card by the builder's one call (the guide's Derived/Test/ToyasCard.lean, 'card_holds'). Laid BY PROGRAM, IN A SANDBOX (cutbox-door.mjs). By AI agents, Wed Nov 11 2026. No macro, syntax, notation, axiom, sorry.
-/
import Derived.Test.YtpobbnllcoabhaaGreatDoorRows
import GoSem.ClaimSeven
namespace Go.Proofs.YtpobbnllcoabhaaGreatDoor
namespace Rows

/-- THE TIED CARD OF 'quietuslaw16.CallsWords'. -/
def callsWordsCard : Claim7 := { stood := { row := callsWordsRow, standIns := [], harness := (true, "776962d8ae78a3ba41e8ac3bba08de3edb499a8604cfd36477dd6119503c7417"), looks := true }, kinds := [], alts := [], laidByText := true, laidKinds := [.data], laidTests := true, laidLooks := .later }
def CallsWordsCardSaid : Prop := Claim7.holds Tryz.pinned (.plain (OpenSpec.ofChange callsWordsSpec)) callsWordsCard

/-- THE SECOND FORM's CARD OF 'quietuslaw16.CallsWords'. -/
def callsWordsUptoCard : Claim7 := { stood := { row := callsWordsUptoRow, standIns := [], harness := (true, "776962d8ae78a3ba41e8ac3bba08de3edb499a8604cfd36477dd6119503c7417"), looks := true }, kinds := [], alts := [], laidByText := true, laidKinds := [.data], laidTests := true, laidLooks := .later }
def CallsWordsUptoCardSaid : Prop := Claim7.holds Tryz.pinned (.plain (OpenSpec.upto callsWordsSpec)) callsWordsUptoCard
end Rows
end Go.Proofs.YtpobbnllcoabhaaGreatDoor
