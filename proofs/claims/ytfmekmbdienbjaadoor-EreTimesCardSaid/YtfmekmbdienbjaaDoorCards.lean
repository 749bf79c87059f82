/-
  DERIVED. GIVEN WITH THE SEED: THE CARDS: each row of YtfmekmbdienbjaaDoorRows.lean that lists a variable, with what it lists TIED to the program's text (the seventh form; the later family's looks); each row that meets fmt, with fmt's text TOLD by the authors' own Lean function (tested against real Go, not proved from fmt's source: count such statements apart). THE CARD IS WHAT COUNTS. Prove the row's statement (the work); the ties are given (YtfmekmbdienbjaaDoorTie.lean); close each card by the builder's one call (the guide's Derived/Test/ToyasCard.lean, 'card_holds'). Laid BY PROGRAM, IN A SANDBOX (cutbox-door.mjs). By AI agents, Wed Nov 11 2026. No macro, syntax, notation, axiom, sorry.
-/
import Derived.Test.YtfmekmbdienbjaaDoorRows
import GoSem.ClaimSeven
namespace Go.Proofs.YtfmekmbdienbjaaDoor
namespace Rows

/-- THE TIED CARD OF 'fieldfarelaw03.CharsetBrackets'. -/
def charsetBracketsCard : Claim7 := { stood := { row := charsetBracketsRow, standIns := [], harness := (true, "bf455ad40297371198dfd750469b091469c7f046ed93baf567ce642769f1b4a7"), looks := true }, kinds := [], alts := [], laidByText := true, laidKinds := [.handle], laidTests := true, laidLooks := .later }
def CharsetBracketsCardSaid : Prop := Claim7.holds Tryd.pinned (.plain (OpenSpec.ofChange charsetBracketsSpec)) charsetBracketsCard

/-- THE TIED CARD OF 'fieldfarelaw04.EreReads'. -/
def ereReadsCard : Claim7 := { stood := { row := ereReadsRow, standIns := [], harness := (true, "bf455ad40297371198dfd750469b091469c7f046ed93baf567ce642769f1b4a7"), looks := true }, kinds := [], alts := [], laidByText := true, laidKinds := [.handle], laidTests := true, laidLooks := .later }
def EreReadsCardSaid : Prop := Claim7.holds Tryd.pinned (.plain (OpenSpec.ofChange ereReadsSpec)) ereReadsCard

/-- THE TIED CARD OF 'fieldfarelaw04.EreTimes'. -/
def ereTimesCard : Claim7 := { stood := { row := ereTimesRow, standIns := [], harness := (true, "bf455ad40297371198dfd750469b091469c7f046ed93baf567ce642769f1b4a7"), looks := true }, kinds := [], alts := [], laidByText := true, laidKinds := [.handle], laidTests := true, laidLooks := .later }
def EreTimesCardSaid : Prop := Claim7.holds Tryd.pinned (.plain (OpenSpec.ofChange ereTimesSpec)) ereTimesCard

/-- THE SECOND FORM's CARD OF 'fieldfarelaw03.CharsetBrackets'. -/
def charsetBracketsUptoCard : Claim7 := { stood := { row := charsetBracketsUptoRow, standIns := [], harness := (true, "bf455ad40297371198dfd750469b091469c7f046ed93baf567ce642769f1b4a7"), looks := true }, kinds := [], alts := [], laidByText := true, laidKinds := [.handle], laidTests := true, laidLooks := .later }
def CharsetBracketsUptoCardSaid : Prop := Claim7.holds Tryd.pinned (.plain (OpenSpec.upto charsetBracketsSpec)) charsetBracketsUptoCard

/-- THE SECOND FORM's CARD OF 'fieldfarelaw04.EreReads'. -/
def ereReadsUptoCard : Claim7 := { stood := { row := ereReadsUptoRow, standIns := [], harness := (true, "bf455ad40297371198dfd750469b091469c7f046ed93baf567ce642769f1b4a7"), looks := true }, kinds := [], alts := [], laidByText := true, laidKinds := [.handle], laidTests := true, laidLooks := .later }
def EreReadsUptoCardSaid : Prop := Claim7.holds Tryd.pinned (.plain (OpenSpec.upto ereReadsSpec)) ereReadsUptoCard

/-- THE SECOND FORM's CARD OF 'fieldfarelaw04.EreTimes'. -/
def ereTimesUptoCard : Claim7 := { stood := { row := ereTimesUptoRow, standIns := [], harness := (true, "bf455ad40297371198dfd750469b091469c7f046ed93baf567ce642769f1b4a7"), looks := true }, kinds := [], alts := [], laidByText := true, laidKinds := [.handle], laidTests := true, laidLooks := .later }
def EreTimesUptoCardSaid : Prop := Claim7.holds Tryd.pinned (.plain (OpenSpec.upto ereTimesSpec)) ereTimesUptoCard
end Rows
end Go.Proofs.YtfmekmbdienbjaaDoor
