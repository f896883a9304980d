/-
  DERIVED. GIVEN WITH THE SEED: THE CARDS: each row of YtbiobhghnldckaaDoorRows.lean that lists a variable, with what it lists TIED to the program's text (the seventh form; the later family's looks); each row that meets fmt, with fmt's text TOLD by the authors' own Lean function (tested against real Go, not proved from fmt's source: count such statements apart). THE CARD IS WHAT COUNTS. Prove the row's statement (the work); the ties are given (YtbiobhghnldckaaDoorTie.lean); close each card by the builder's one call (the guide's Derived/Test/ToyasCard.lean, 'card_holds'). Laid BY PROGRAM, IN A SANDBOX (cutbox-door.mjs). By AI agents, Wed Nov 11 2026. No macro, syntax, notation, axiom, sorry.
-/
import Derived.Test.YtbiobhghnldckaaDoorRows
import GoSem.ClaimSeven
namespace Go.Proofs.YtbiobhghnldckaaDoor
namespace Rows

/-- THE TIED CARD OF 'adzelaw.Unmade'. -/
def unmadeCard : Claim7 := { stood := { row := unmadeRow, standIns := [], harness := (true, "b300d9d80f5d8691d8a9e4cc9dea36419c283fb2d57642ecf2e0a7cfa8f1b2ed"), looks := false }, kinds := [], alts := [], laidByText := true, laidKinds := [.data, .data, .data, .data, .pinned], laidTests := true, laidLooks := .later }
def UnmadeCardSaid : Prop := Claim7.holds Tryd.pinned (.plain (OpenSpec.ofChange unmadeSpec)) unmadeCard

/-- THE SECOND FORM's CARD OF 'adzelaw.Unmade'. -/
def unmadeUptoCard : Claim7 := { stood := { row := unmadeUptoRow, standIns := [], harness := (true, "b300d9d80f5d8691d8a9e4cc9dea36419c283fb2d57642ecf2e0a7cfa8f1b2ed"), looks := false }, kinds := [], alts := [], laidByText := true, laidKinds := [.data, .data, .data, .data, .pinned], laidTests := true, laidLooks := .later }
def UnmadeUptoCardSaid : Prop := Claim7.holds Tryd.pinned (.plain (OpenSpec.upto unmadeSpec)) unmadeUptoCard
end Rows
end Go.Proofs.YtbiobhghnldckaaDoor
