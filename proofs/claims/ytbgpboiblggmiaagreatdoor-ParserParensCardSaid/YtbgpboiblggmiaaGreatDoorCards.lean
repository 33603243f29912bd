/-
  DERIVED. GIVEN WITH THE SEED: THE CARDS: each row of YtbgpboiblggmiaaGreatDoorRows.lean that lists a variable, with what it lists TIED to the program's text (the seventh form; the later family's looks); each row that meets fmt, with fmt's text TOLD by the authors' own Lean function (tested against real Go, not proved from fmt's source: count such statements apart). THE CARD IS WHAT COUNTS. Prove the row's statement (the work); the ties are given (YtbgpboiblggmiaaGreatDoorTie.lean); close each card by the builder's one call (the guide's Derived/Test/ToyasCard.lean, 'card_holds'). Laid BY PROGRAM, IN A SANDBOX (cutbox-door.mjs). By AI agents, Wed Nov 11 2026. No macro, syntax, notation, axiom, sorry.
-/
import Derived.Test.YtbgpboiblggmiaaGreatDoorRows
import GoSem.ClaimSeven
namespace Go.Proofs.YtbgpboiblggmiaaGreatDoor
namespace Rows

/-- THE TIED CARD OF 'relyguardlaw02.ParserWellFormed'. -/
def parserWellFormedCard : Claim7 := { stood := { row := parserWellFormedRow, standIns := [], harness := (true, "c0db7c5afeefbf827b1a0f669f19f6a4c014aba8d40e64ddfa7920af88896ffe"), looks := true }, kinds := [], alts := [], laidByText := true, laidKinds := [.data, .data, .data, .data, .sentinel, .sentinel, .data, .pinned], laidTests := true, laidLooks := .later }
def ParserWellFormedCardSaid : Prop := Claim7.holds Tryz.pinned (.plain (OpenSpec.ofChange parserWellFormedSpec)) parserWellFormedCard

/-- THE TIED CARD OF 'relyguardlaw02.ParserParens'. -/
def parserParensCard : Claim7 := { stood := { row := parserParensRow, standIns := [], harness := (true, "c0db7c5afeefbf827b1a0f669f19f6a4c014aba8d40e64ddfa7920af88896ffe"), looks := true }, kinds := [], alts := [], laidByText := true, laidKinds := [.data, .data, .data, .data, .sentinel, .sentinel, .data, .pinned], laidTests := true, laidLooks := .later }
def ParserParensCardSaid : Prop := Claim7.holds Tryz.pinned (.plain (OpenSpec.ofChange parserParensSpec)) parserParensCard

/-- THE TIED CARD OF 'relyguardlaw02.ParserLevels'. -/
def parserLevelsCard : Claim7 := { stood := { row := parserLevelsRow, standIns := [], harness := (true, "c0db7c5afeefbf827b1a0f669f19f6a4c014aba8d40e64ddfa7920af88896ffe"), looks := true }, kinds := [], alts := [], laidByText := true, laidKinds := [.data, .data, .data, .data, .sentinel, .sentinel, .data, .pinned], laidTests := true, laidLooks := .later }
def ParserLevelsCardSaid : Prop := Claim7.holds Tryz.pinned (.plain (OpenSpec.ofChange parserLevelsSpec)) parserLevelsCard

/-- THE TIED CARD OF 'relyguardlaw02.ParserLayout'. -/
def parserLayoutCard : Claim7 := { stood := { row := parserLayoutRow, standIns := [], harness := (true, "c0db7c5afeefbf827b1a0f669f19f6a4c014aba8d40e64ddfa7920af88896ffe"), looks := true }, kinds := [], alts := [], laidByText := true, laidKinds := [.data, .data, .data, .data, .sentinel, .sentinel, .data, .pinned], laidTests := true, laidLooks := .later }
def ParserLayoutCardSaid : Prop := Claim7.holds Tryz.pinned (.plain (OpenSpec.ofChange parserLayoutSpec)) parserLayoutCard

/-- THE TIED CARD OF 'relyguardlaw02.ParserConcat'. -/
def parserConcatCard : Claim7 := { stood := { row := parserConcatRow, standIns := [], harness := (true, "c0db7c5afeefbf827b1a0f669f19f6a4c014aba8d40e64ddfa7920af88896ffe"), looks := true }, kinds := [], alts := [], laidByText := true, laidKinds := [.data, .data, .data, .data, .sentinel, .sentinel, .data, .pinned], laidTests := true, laidLooks := .later }
def ParserConcatCardSaid : Prop := Claim7.holds Tryz.pinned (.plain (OpenSpec.ofChange parserConcatSpec)) parserConcatCard

/-- THE TIED CARD OF 'relyguardlaw02.ParserRecovery'. -/
def parserRecoveryCard : Claim7 := { stood := { row := parserRecoveryRow, standIns := [], harness := (true, "c0db7c5afeefbf827b1a0f669f19f6a4c014aba8d40e64ddfa7920af88896ffe"), looks := true }, kinds := [], alts := [], laidByText := true, laidKinds := [.data, .data, .data, .data, .sentinel, .sentinel, .data, .pinned], laidTests := true, laidLooks := .later }
def ParserRecoveryCardSaid : Prop := Claim7.holds Tryz.pinned (.plain (OpenSpec.ofChange parserRecoverySpec)) parserRecoveryCard

/-- THE TIED CARD OF 'relyguardlaw02.ParserTruncated'. -/
def parserTruncatedCard : Claim7 := { stood := { row := parserTruncatedRow, standIns := [], harness := (true, "c0db7c5afeefbf827b1a0f669f19f6a4c014aba8d40e64ddfa7920af88896ffe"), looks := true }, kinds := [], alts := [], laidByText := true, laidKinds := [.data, .data, .data, .data, .sentinel, .sentinel, .data, .pinned], laidTests := true, laidLooks := .later }
def ParserTruncatedCardSaid : Prop := Claim7.holds Tryz.pinned (.plain (OpenSpec.ofChange parserTruncatedSpec)) parserTruncatedCard

/-- THE TIED CARD OF 'relyguardlaw02.ParserLocality'. -/
def parserLocalityCard : Claim7 := { stood := { row := parserLocalityRow, standIns := [], harness := (true, "c0db7c5afeefbf827b1a0f669f19f6a4c014aba8d40e64ddfa7920af88896ffe"), looks := true }, kinds := [], alts := [], laidByText := true, laidKinds := [.data, .data, .data, .data, .sentinel, .sentinel, .data, .pinned], laidTests := true, laidLooks := .later }
def ParserLocalityCardSaid : Prop := Claim7.holds Tryz.pinned (.plain (OpenSpec.ofChange parserLocalitySpec)) parserLocalityCard

/-- THE SECOND FORM's CARD OF 'relyguardlaw02.ParserWellFormed'. -/
def parserWellFormedUptoCard : Claim7 := { stood := { row := parserWellFormedUptoRow, standIns := [], harness := (true, "c0db7c5afeefbf827b1a0f669f19f6a4c014aba8d40e64ddfa7920af88896ffe"), looks := true }, kinds := [], alts := [], laidByText := true, laidKinds := [.data, .data, .data, .data, .sentinel, .sentinel, .data, .pinned], laidTests := true, laidLooks := .later }
def ParserWellFormedUptoCardSaid : Prop := Claim7.holds Tryz.pinned (.plain (OpenSpec.upto parserWellFormedSpec)) parserWellFormedUptoCard

/-- THE SECOND FORM's CARD OF 'relyguardlaw02.ParserParens'. -/
def parserParensUptoCard : Claim7 := { stood := { row := parserParensUptoRow, standIns := [], harness := (true, "c0db7c5afeefbf827b1a0f669f19f6a4c014aba8d40e64ddfa7920af88896ffe"), looks := true }, kinds := [], alts := [], laidByText := true, laidKinds := [.data, .data, .data, .data, .sentinel, .sentinel, .data, .pinned], laidTests := true, laidLooks := .later }
def ParserParensUptoCardSaid : Prop := Claim7.holds Tryz.pinned (.plain (OpenSpec.upto parserParensSpec)) parserParensUptoCard

/-- THE SECOND FORM's CARD OF 'relyguardlaw02.ParserLevels'. -/
def parserLevelsUptoCard : Claim7 := { stood := { row := parserLevelsUptoRow, standIns := [], harness := (true, "c0db7c5afeefbf827b1a0f669f19f6a4c014aba8d40e64ddfa7920af88896ffe"), looks := true }, kinds := [], alts := [], laidByText := true, laidKinds := [.data, .data, .data, .data, .sentinel, .sentinel, .data, .pinned], laidTests := true, laidLooks := .later }
def ParserLevelsUptoCardSaid : Prop := Claim7.holds Tryz.pinned (.plain (OpenSpec.upto parserLevelsSpec)) parserLevelsUptoCard

/-- THE SECOND FORM's CARD OF 'relyguardlaw02.ParserLayout'. -/
def parserLayoutUptoCard : Claim7 := { stood := { row := parserLayoutUptoRow, standIns := [], harness := (true, "c0db7c5afeefbf827b1a0f669f19f6a4c014aba8d40e64ddfa7920af88896ffe"), looks := true }, kinds := [], alts := [], laidByText := true, laidKinds := [.data, .data, .data, .data, .sentinel, .sentinel, .data, .pinned], laidTests := true, laidLooks := .later }
def ParserLayoutUptoCardSaid : Prop := Claim7.holds Tryz.pinned (.plain (OpenSpec.upto parserLayoutSpec)) parserLayoutUptoCard

/-- THE SECOND FORM's CARD OF 'relyguardlaw02.ParserConcat'. -/
def parserConcatUptoCard : Claim7 := { stood := { row := parserConcatUptoRow, standIns := [], harness := (true, "c0db7c5afeefbf827b1a0f669f19f6a4c014aba8d40e64ddfa7920af88896ffe"), looks := true }, kinds := [], alts := [], laidByText := true, laidKinds := [.data, .data, .data, .data, .sentinel, .sentinel, .data, .pinned], laidTests := true, laidLooks := .later }
def ParserConcatUptoCardSaid : Prop := Claim7.holds Tryz.pinned (.plain (OpenSpec.upto parserConcatSpec)) parserConcatUptoCard

/-- THE SECOND FORM's CARD OF 'relyguardlaw02.ParserRecovery'. -/
def parserRecoveryUptoCard : Claim7 := { stood := { row := parserRecoveryUptoRow, standIns := [], harness := (true, "c0db7c5afeefbf827b1a0f669f19f6a4c014aba8d40e64ddfa7920af88896ffe"), looks := true }, kinds := [], alts := [], laidByText := true, laidKinds := [.data, .data, .data, .data, .sentinel, .sentinel, .data, .pinned], laidTests := true, laidLooks := .later }
def ParserRecoveryUptoCardSaid : Prop := Claim7.holds Tryz.pinned (.plain (OpenSpec.upto parserRecoverySpec)) parserRecoveryUptoCard

/-- THE SECOND FORM's CARD OF 'relyguardlaw02.ParserTruncated'. -/
def parserTruncatedUptoCard : Claim7 := { stood := { row := parserTruncatedUptoRow, standIns := [], harness := (true, "c0db7c5afeefbf827b1a0f669f19f6a4c014aba8d40e64ddfa7920af88896ffe"), looks := true }, kinds := [], alts := [], laidByText := true, laidKinds := [.data, .data, .data, .data, .sentinel, .sentinel, .data, .pinned], laidTests := true, laidLooks := .later }
def ParserTruncatedUptoCardSaid : Prop := Claim7.holds Tryz.pinned (.plain (OpenSpec.upto parserTruncatedSpec)) parserTruncatedUptoCard

/-- THE SECOND FORM's CARD OF 'relyguardlaw02.ParserLocality'. -/
def parserLocalityUptoCard : Claim7 := { stood := { row := parserLocalityUptoRow, standIns := [], harness := (true, "c0db7c5afeefbf827b1a0f669f19f6a4c014aba8d40e64ddfa7920af88896ffe"), looks := true }, kinds := [], alts := [], laidByText := true, laidKinds := [.data, .data, .data, .data, .sentinel, .sentinel, .data, .pinned], laidTests := true, laidLooks := .later }
def ParserLocalityUptoCardSaid : Prop := Claim7.holds Tryz.pinned (.plain (OpenSpec.upto parserLocalitySpec)) parserLocalityUptoCard
end Rows
end Go.Proofs.YtbgpboiblggmiaaGreatDoor
