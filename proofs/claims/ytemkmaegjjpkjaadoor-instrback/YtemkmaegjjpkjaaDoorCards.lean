/-
  DERIVED. GIVEN WITH THE SEED: THE CARDS: each row of YtemkmaegjjpkjaaDoorRows.lean that lists a variable, with what it lists TIED to the program's text (the seventh form; the later family's looks); each row that meets fmt, with fmt's text TOLD by the authors' own Lean function (tested against real Go, not proved from fmt's source: count such statements apart). THE CARD IS WHAT COUNTS. Prove the row's statement (the work); the ties are given (YtemkmaegjjpkjaaDoorTie.lean); close each card by the builder's one call (the guide's Derived/Test/ToyasCard.lean, 'card_holds'). Laid BY PROGRAM, IN A SANDBOX (cutbox-door.mjs). By AI agents, Wed Nov 11 2026. No macro, syntax, notation, axiom, sorry.
-/
import Derived.Test.YtemkmaegjjpkjaaDoorRows
import GoSem.ClaimSeven
namespace Go.Proofs.YtemkmaegjjpkjaaDoor
namespace Rows

/-- THE TIED CARD OF 'callboylaw04.InstrRight'. -/
def instrRightCard : Claim7 := { stood := { row := instrRightRow, standIns := [], harness := (true, "18e742d87d8c697528f254d4ef95ed2af62df97a6e4f2406420f4cd05a7aa372"), looks := false }, kinds := [], alts := [], laidByText := true, laidKinds := [.data], laidTests := true, laidLooks := .later }
def InstrRightCardSaid : Prop := Claim7.holds Tryd.pinned (.plain (OpenSpec.ofChange instrRightSpec)) instrRightCard

/-- THE TIED CARD OF 'callboylaw04.InstrBytes'. -/
def instrBytesCard : Claim7 := { stood := { row := instrBytesRow, standIns := [], harness := (true, "18e742d87d8c697528f254d4ef95ed2af62df97a6e4f2406420f4cd05a7aa372"), looks := false }, kinds := [], alts := [], laidByText := true, laidKinds := [.data], laidTests := true, laidLooks := .later }
def InstrBytesCardSaid : Prop := Claim7.holds Tryd.pinned (.plain (OpenSpec.ofChange instrBytesSpec)) instrBytesCard

/-- THE TIED CARD OF 'callboylaw04.InstrReads'. -/
def instrReadsCard : Claim7 := { stood := { row := instrReadsRow, standIns := [], harness := (true, "18e742d87d8c697528f254d4ef95ed2af62df97a6e4f2406420f4cd05a7aa372"), looks := false }, kinds := [], alts := [], laidByText := true, laidKinds := [.data], laidTests := true, laidLooks := .later }
def InstrReadsCardSaid : Prop := Claim7.holds Tryd.pinned (.plain (OpenSpec.ofChange instrReadsSpec)) instrReadsCard

/-- THE TIED CARD OF 'callboylaw04.InstrBack'. -/
def instrBackCard : Claim7 := { stood := { row := instrBackRow, standIns := [], harness := (true, "18e742d87d8c697528f254d4ef95ed2af62df97a6e4f2406420f4cd05a7aa372"), looks := false }, kinds := [], alts := [], laidByText := true, laidKinds := [.data], laidTests := true, laidLooks := .later }
def InstrBackCardSaid : Prop := Claim7.holds Tryd.pinned (.plain (OpenSpec.ofChange instrBackSpec)) instrBackCard

/-- THE TIED CARD OF 'callboylaw04.InstrNames'. -/
def instrNamesCard : Claim7 := { stood := { row := instrNamesRow, standIns := [], harness := (true, "18e742d87d8c697528f254d4ef95ed2af62df97a6e4f2406420f4cd05a7aa372"), looks := false }, kinds := [], alts := [], laidByText := true, laidKinds := [.data], laidTests := true, laidLooks := .later }
def InstrNamesCardSaid : Prop := Claim7.holds Tryd.pinned (.plain (OpenSpec.ofChange instrNamesSpec)) instrNamesCard

/-- THE TIED CARD OF 'callboylaw04.InstrSize'. -/
def instrSizeCard : Claim7 := { stood := { row := instrSizeRow, standIns := [], harness := (true, "18e742d87d8c697528f254d4ef95ed2af62df97a6e4f2406420f4cd05a7aa372"), looks := false }, kinds := [], alts := [], laidByText := true, laidKinds := [.data], laidTests := true, laidLooks := .later }
def InstrSizeCardSaid : Prop := Claim7.holds Tryd.pinned (.plain (OpenSpec.ofChange instrSizeSpec)) instrSizeCard

/-- THE SECOND FORM's CARD OF 'callboylaw04.InstrRight'. -/
def instrRightUptoCard : Claim7 := { stood := { row := instrRightUptoRow, standIns := [], harness := (true, "18e742d87d8c697528f254d4ef95ed2af62df97a6e4f2406420f4cd05a7aa372"), looks := false }, kinds := [], alts := [], laidByText := true, laidKinds := [.data], laidTests := true, laidLooks := .later }
def InstrRightUptoCardSaid : Prop := Claim7.holds Tryd.pinned (.plain (OpenSpec.upto instrRightSpec)) instrRightUptoCard

/-- THE SECOND FORM's CARD OF 'callboylaw04.InstrBytes'. -/
def instrBytesUptoCard : Claim7 := { stood := { row := instrBytesUptoRow, standIns := [], harness := (true, "18e742d87d8c697528f254d4ef95ed2af62df97a6e4f2406420f4cd05a7aa372"), looks := false }, kinds := [], alts := [], laidByText := true, laidKinds := [.data], laidTests := true, laidLooks := .later }
def InstrBytesUptoCardSaid : Prop := Claim7.holds Tryd.pinned (.plain (OpenSpec.upto instrBytesSpec)) instrBytesUptoCard

/-- THE SECOND FORM's CARD OF 'callboylaw04.InstrReads'. -/
def instrReadsUptoCard : Claim7 := { stood := { row := instrReadsUptoRow, standIns := [], harness := (true, "18e742d87d8c697528f254d4ef95ed2af62df97a6e4f2406420f4cd05a7aa372"), looks := false }, kinds := [], alts := [], laidByText := true, laidKinds := [.data], laidTests := true, laidLooks := .later }
def InstrReadsUptoCardSaid : Prop := Claim7.holds Tryd.pinned (.plain (OpenSpec.upto instrReadsSpec)) instrReadsUptoCard

/-- THE SECOND FORM's CARD OF 'callboylaw04.InstrBack'. -/
def instrBackUptoCard : Claim7 := { stood := { row := instrBackUptoRow, standIns := [], harness := (true, "18e742d87d8c697528f254d4ef95ed2af62df97a6e4f2406420f4cd05a7aa372"), looks := false }, kinds := [], alts := [], laidByText := true, laidKinds := [.data], laidTests := true, laidLooks := .later }
def InstrBackUptoCardSaid : Prop := Claim7.holds Tryd.pinned (.plain (OpenSpec.upto instrBackSpec)) instrBackUptoCard

/-- THE SECOND FORM's CARD OF 'callboylaw04.InstrNames'. -/
def instrNamesUptoCard : Claim7 := { stood := { row := instrNamesUptoRow, standIns := [], harness := (true, "18e742d87d8c697528f254d4ef95ed2af62df97a6e4f2406420f4cd05a7aa372"), looks := false }, kinds := [], alts := [], laidByText := true, laidKinds := [.data], laidTests := true, laidLooks := .later }
def InstrNamesUptoCardSaid : Prop := Claim7.holds Tryd.pinned (.plain (OpenSpec.upto instrNamesSpec)) instrNamesUptoCard

/-- THE SECOND FORM's CARD OF 'callboylaw04.InstrSize'. -/
def instrSizeUptoCard : Claim7 := { stood := { row := instrSizeUptoRow, standIns := [], harness := (true, "18e742d87d8c697528f254d4ef95ed2af62df97a6e4f2406420f4cd05a7aa372"), looks := false }, kinds := [], alts := [], laidByText := true, laidKinds := [.data], laidTests := true, laidLooks := .later }
def InstrSizeUptoCardSaid : Prop := Claim7.holds Tryd.pinned (.plain (OpenSpec.upto instrSizeSpec)) instrSizeUptoCard
end Rows
end Go.Proofs.YtemkmaegjjpkjaaDoor
