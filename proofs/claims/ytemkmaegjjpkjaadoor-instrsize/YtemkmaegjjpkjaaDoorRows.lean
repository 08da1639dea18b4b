/-
  NARROWER THAN 'FOR EVERY INPUT', by the rows' own cells (each row's printed sentence says how): InstrRight: laid · InstrBytes: laid · InstrReads: laid · InstrBack: laid · InstrNames: laid · InstrSize: laid.
  DERIVED. THE GIVEN ROWS OF THIS SEAT. 6 by the template 'for every input the law returns true; each argument reads behind the call as it read before'; 0 by the template 'total and deterministic' (their statements: YtemkmaegjjpkjaaDoorTotals.lean).
  GIVEN WITH THE SEED: the statements are not yours to turn. If you find one false, say at which input.
  Laid BY PROGRAM, IN A SANDBOX (cutbox-rows.mjs): the forced cells as the released guide's own fill.sh prints them over the translation a697ad7375588058… (all of the seat's roots in one cut). By AI agents, Wed Nov 11 2026. No macro, syntax, notation, axiom, sorry.
-/
import Derived.Test.YtemkmaegjjpkjaaDoorChecked
import GoSem.Claim
import GoSem.ClaimJoined
import GoSem.ClaimMapViews
import Derived.JoinedTies
import Derived.KernelRfl
namespace Go.Proofs.YtemkmaegjjpkjaaDoor
/- THE CELL 'sum', in the pinned program and in every row, IS THE sha256 OF THE DUMP (.gsa) THAT YtemkmaegjjpkjaaDoorProg.lean LOADS. Nothing in Lean hashes anything: it is a label: what it is worth is what the hold of that sum in a sandbox is worth. -/
noncomputable def Tryd.pinned : Pinned := { name := "ytemkmaegjjpkjaadoor", sum := "a697ad737558805843f83ee18ba374610549d25e24a999249b2c37b9c9c44350", checked := Tryd.checked }
namespace Rows
def none {H : Type} : Left H := { results := [], args := [] }

/- WHAT THE LISTED PACKAGE-LEVEL VARIABLES READ AS WHEN THE CALL BEGINS. Each datum BY PROGRAM (the guide's laid-datum.mjs) off the statement by which the dump's own 'gosem.cut.vars' lays the variable. In a bare row this is a premise. The card (YtemkmaegjjpkjaaDoorCards.lean) ties it to the program's text. -/
def laid_callboy_instr_names {H : Type} : DataW H := .agg [.lit (.string [104, 97, 108, 116]), .lit (.string [112, 117, 115, 104]), .lit (.string [116, 114, 117, 101]), .lit (.string [102, 97, 108, 115, 101]), .lit (.string [108, 111, 97, 100]), .lit (.string [115, 116, 111, 114, 101]), .lit (.string [97, 100, 100]), .lit (.string [115, 117, 98]), .lit (.string [109, 117, 108]), .lit (.string [100, 105, 118]), .lit (.string [114, 101, 109]), .lit (.string [108, 101, 115, 115]), .lit (.string [101, 113]), .lit (.string [110, 111, 116]), .lit (.string [97, 110, 100]), .lit (.string [111, 114]), .lit (.string [106, 117, 109, 112]), .lit (.string [117, 110, 108, 101, 115, 115]), .lit (.string [115, 101, 108, 102]), .lit (.string [115, 112, 97, 119, 110]), .lit (.string [115, 101, 110, 100]), .lit (.string [114, 101, 99, 118]), .lit (.string [108, 105, 110, 107]), .lit (.string [101, 120, 105, 116]), .lit (.string [111, 117, 116]), .lit (.string [100, 114, 111, 112]), .lit (.string [100, 117, 112])]

/-- 'callboylaw04.InstrRight': WHATEVER THE INPUT: true; the input reads as it did. -/
def instrRightSpec : ChangeSpec := { name := "instrRight", fn := fun _ => fun
  | [d1, d2, d3] => { results := [.lit (.bool true)], args := [d1, d2, d3] }
  | _ => none }
def instrRightRow : OpenClaim := { program := "ytemkmaegjjpkjaadoor", sum := "a697ad737558805843f83ee18ba374610549d25e24a999249b2c37b9c9c44350", func := "callboy/callboylaw04.InstrRight", spec := "instrRight", named := ["callboy/instr.names"], apart := false, laid := [("callboy/instr.names", laid_callboy_instr_names)] }
def InstrRightSaid : Prop := instrRightRow.holds Tryd.pinned (OpenSpec.ofChange instrRightSpec)

/-- ITS FALSE NEIGHBOUR: 'it returns false'. Refute it at one input. -/
def instrRightWrong : ChangeSpec := { name := "instrRight", fn := fun _ => fun
  | [d1, d2, d3] => { results := [.lit (.bool false)], args := [d1, d2, d3] }
  | _ => none }
def InstrRightWrongFalsely : Prop := instrRightRow.holds Tryd.pinned (OpenSpec.ofChange instrRightWrong)

/-- 'callboylaw04.InstrBytes': WHATEVER THE INPUT: true; the input reads as it did. -/
def instrBytesSpec : ChangeSpec := { name := "instrBytes", fn := fun _ => fun
  | [d] => { results := [.lit (.bool true)], args := [d] }
  | _ => none }
def instrBytesRow : OpenClaim := { program := "ytemkmaegjjpkjaadoor", sum := "a697ad737558805843f83ee18ba374610549d25e24a999249b2c37b9c9c44350", func := "callboy/callboylaw04.InstrBytes", spec := "instrBytes", named := ["callboy/instr.names"], apart := false, laid := [("callboy/instr.names", laid_callboy_instr_names)] }
def InstrBytesSaid : Prop := instrBytesRow.holds Tryd.pinned (OpenSpec.ofChange instrBytesSpec)

/-- ITS FALSE NEIGHBOUR: 'it returns false'. Refute it at one input. -/
def instrBytesWrong : ChangeSpec := { name := "instrBytes", fn := fun _ => fun
  | [d] => { results := [.lit (.bool false)], args := [d] }
  | _ => none }
def InstrBytesWrongFalsely : Prop := instrBytesRow.holds Tryd.pinned (OpenSpec.ofChange instrBytesWrong)

/-- 'callboylaw04.InstrReads': WHATEVER THE INPUT: true; the input reads as it did. -/
def instrReadsSpec : ChangeSpec := { name := "instrReads", fn := fun _ => fun
  | [d] => { results := [.lit (.bool true)], args := [d] }
  | _ => none }
def instrReadsRow : OpenClaim := { program := "ytemkmaegjjpkjaadoor", sum := "a697ad737558805843f83ee18ba374610549d25e24a999249b2c37b9c9c44350", func := "callboy/callboylaw04.InstrReads", spec := "instrReads", named := ["callboy/instr.names"], apart := false, laid := [("callboy/instr.names", laid_callboy_instr_names)] }
def InstrReadsSaid : Prop := instrReadsRow.holds Tryd.pinned (OpenSpec.ofChange instrReadsSpec)

/-- ITS FALSE NEIGHBOUR: 'it returns false'. Refute it at one input. -/
def instrReadsWrong : ChangeSpec := { name := "instrReads", fn := fun _ => fun
  | [d] => { results := [.lit (.bool false)], args := [d] }
  | _ => none }
def InstrReadsWrongFalsely : Prop := instrReadsRow.holds Tryd.pinned (OpenSpec.ofChange instrReadsWrong)

/-- 'callboylaw04.InstrBack': WHATEVER THE INPUT: true; the input reads as it did. -/
def instrBackSpec : ChangeSpec := { name := "instrBack", fn := fun _ => fun
  | [d1, d2, d3] => { results := [.lit (.bool true)], args := [d1, d2, d3] }
  | _ => none }
def instrBackRow : OpenClaim := { program := "ytemkmaegjjpkjaadoor", sum := "a697ad737558805843f83ee18ba374610549d25e24a999249b2c37b9c9c44350", func := "callboy/callboylaw04.InstrBack", spec := "instrBack", named := ["callboy/instr.names"], apart := false, laid := [("callboy/instr.names", laid_callboy_instr_names)] }
def InstrBackSaid : Prop := instrBackRow.holds Tryd.pinned (OpenSpec.ofChange instrBackSpec)

/-- ITS FALSE NEIGHBOUR: 'it returns false'. Refute it at one input. -/
def instrBackWrong : ChangeSpec := { name := "instrBack", fn := fun _ => fun
  | [d1, d2, d3] => { results := [.lit (.bool false)], args := [d1, d2, d3] }
  | _ => none }
def InstrBackWrongFalsely : Prop := instrBackRow.holds Tryd.pinned (OpenSpec.ofChange instrBackWrong)

/-- 'callboylaw04.InstrNames': WHATEVER THE INPUT: true; the input reads as it did. -/
def instrNamesSpec : ChangeSpec := { name := "instrNames", fn := fun _ => fun
  | [d1, d2, d3] => { results := [.lit (.bool true)], args := [d1, d2, d3] }
  | _ => none }
def instrNamesRow : OpenClaim := { program := "ytemkmaegjjpkjaadoor", sum := "a697ad737558805843f83ee18ba374610549d25e24a999249b2c37b9c9c44350", func := "callboy/callboylaw04.InstrNames", spec := "instrNames", named := ["callboy/instr.names"], apart := false, laid := [("callboy/instr.names", laid_callboy_instr_names)] }
def InstrNamesSaid : Prop := instrNamesRow.holds Tryd.pinned (OpenSpec.ofChange instrNamesSpec)

/-- ITS FALSE NEIGHBOUR: 'it returns false'. Refute it at one input. -/
def instrNamesWrong : ChangeSpec := { name := "instrNames", fn := fun _ => fun
  | [d1, d2, d3] => { results := [.lit (.bool false)], args := [d1, d2, d3] }
  | _ => none }
def InstrNamesWrongFalsely : Prop := instrNamesRow.holds Tryd.pinned (OpenSpec.ofChange instrNamesWrong)

/-- 'callboylaw04.InstrSize': WHATEVER THE INPUT: true; the input reads as it did. -/
def instrSizeSpec : ChangeSpec := { name := "instrSize", fn := fun _ => fun
  | [d] => { results := [.lit (.bool true)], args := [d] }
  | _ => none }
def instrSizeRow : OpenClaim := { program := "ytemkmaegjjpkjaadoor", sum := "a697ad737558805843f83ee18ba374610549d25e24a999249b2c37b9c9c44350", func := "callboy/callboylaw04.InstrSize", spec := "instrSize", named := ["callboy/instr.names"], apart := false, laid := [("callboy/instr.names", laid_callboy_instr_names)] }
def InstrSizeSaid : Prop := instrSizeRow.holds Tryd.pinned (OpenSpec.ofChange instrSizeSpec)

/-- ITS FALSE NEIGHBOUR: 'it returns false'. Refute it at one input. -/
def instrSizeWrong : ChangeSpec := { name := "instrSize", fn := fun _ => fun
  | [d] => { results := [.lit (.bool false)], args := [d] }
  | _ => none }
def InstrSizeWrongFalsely : Prop := instrSizeRow.holds Tryd.pinned (OpenSpec.ofChange instrSizeWrong)

/- THE SECOND FORM. 'bulk': how many values and letters a reading holds, each counted each time it is reached (what is shared counts as often as it is met; a slice's spare places count too). A statement '..UptoSaid' is the law's where the arguments, and the package variables that the reading takes, are together of bulk at most 1048576: NARROWER than '..Said'. Prove '..Said' where nothing that the law and all that it calls make is longer than what came in: it says more and counts as full. Else prove '..UptoSaid'. A law counts once. -/
mutual
def uptoBulk {H : Type} : DataW H → Nat
  | .lit (.string bytes) => bytes.length + 1
  | .lit _ => 1
  | .nil => 1
  | .ptr d => uptoBulk d + 1
  | .slice elems spare => uptoBulkAll elems + uptoBulkAll spare + 1
  | .agg parts => uptoBulkAll parts + 1
  | .iface _ d => uptoBulk d + 1
  | .map entries => uptoBulkEntries entries + 1
  | .held _ => 1
def uptoBulkAll {H : Type} : List (DataW H) → Nat
  | [] => 0
  | d :: r => uptoBulk d + uptoBulkAll r
def uptoBulkEntries {H : Type} : List (Lit × DataW H) → Nat
  | [] => 0
  | x :: r => uptoBulkEntry x + uptoBulkEntries r
def uptoBulkEntry {H : Type} : Lit × DataW H → Nat
  | (.string bytes, d) => bytes.length + uptoBulk d + 1
  | (_, d) => uptoBulk d + 1
 end
def uptoSmall : (H : Type) → List (DataW H) → Bool := fun _ ds => decide (uptoBulkAll ds ≤ 1048576)
def OpenSpec.upto (s : _root_.Go.ChangeSpec) : _root_.Go.OpenSpec := { _root_.Go.OpenSpec.ofChange s with cond := some uptoSmall }

/-- 'callboylaw04.InstrRight', WHERE WHAT IT READS IS OF BULK AT MOST 1048576: true; the input reads as it did. -/
def instrRightUptoRow : OpenClaim := { program := "ytemkmaegjjpkjaadoor", sum := "a697ad737558805843f83ee18ba374610549d25e24a999249b2c37b9c9c44350", func := "callboy/callboylaw04.InstrRight", spec := "instrRight", named := ["callboy/instr.names"], apart := false, laid := [("callboy/instr.names", laid_callboy_instr_names)], narrowed := true }
def InstrRightUptoSaid : Prop := instrRightUptoRow.holds Tryd.pinned (OpenSpec.upto instrRightSpec)

/-- 'callboylaw04.InstrBytes', WHERE WHAT IT READS IS OF BULK AT MOST 1048576: true; the input reads as it did. -/
def instrBytesUptoRow : OpenClaim := { program := "ytemkmaegjjpkjaadoor", sum := "a697ad737558805843f83ee18ba374610549d25e24a999249b2c37b9c9c44350", func := "callboy/callboylaw04.InstrBytes", spec := "instrBytes", named := ["callboy/instr.names"], apart := false, laid := [("callboy/instr.names", laid_callboy_instr_names)], narrowed := true }
def InstrBytesUptoSaid : Prop := instrBytesUptoRow.holds Tryd.pinned (OpenSpec.upto instrBytesSpec)

/-- 'callboylaw04.InstrReads', WHERE WHAT IT READS IS OF BULK AT MOST 1048576: true; the input reads as it did. -/
def instrReadsUptoRow : OpenClaim := { program := "ytemkmaegjjpkjaadoor", sum := "a697ad737558805843f83ee18ba374610549d25e24a999249b2c37b9c9c44350", func := "callboy/callboylaw04.InstrReads", spec := "instrReads", named := ["callboy/instr.names"], apart := false, laid := [("callboy/instr.names", laid_callboy_instr_names)], narrowed := true }
def InstrReadsUptoSaid : Prop := instrReadsUptoRow.holds Tryd.pinned (OpenSpec.upto instrReadsSpec)

/-- 'callboylaw04.InstrBack', WHERE WHAT IT READS IS OF BULK AT MOST 1048576: true; the input reads as it did. -/
def instrBackUptoRow : OpenClaim := { program := "ytemkmaegjjpkjaadoor", sum := "a697ad737558805843f83ee18ba374610549d25e24a999249b2c37b9c9c44350", func := "callboy/callboylaw04.InstrBack", spec := "instrBack", named := ["callboy/instr.names"], apart := false, laid := [("callboy/instr.names", laid_callboy_instr_names)], narrowed := true }
def InstrBackUptoSaid : Prop := instrBackUptoRow.holds Tryd.pinned (OpenSpec.upto instrBackSpec)

/-- 'callboylaw04.InstrNames', WHERE WHAT IT READS IS OF BULK AT MOST 1048576: true; the input reads as it did. -/
def instrNamesUptoRow : OpenClaim := { program := "ytemkmaegjjpkjaadoor", sum := "a697ad737558805843f83ee18ba374610549d25e24a999249b2c37b9c9c44350", func := "callboy/callboylaw04.InstrNames", spec := "instrNames", named := ["callboy/instr.names"], apart := false, laid := [("callboy/instr.names", laid_callboy_instr_names)], narrowed := true }
def InstrNamesUptoSaid : Prop := instrNamesUptoRow.holds Tryd.pinned (OpenSpec.upto instrNamesSpec)

/-- 'callboylaw04.InstrSize', WHERE WHAT IT READS IS OF BULK AT MOST 1048576: true; the input reads as it did. -/
def instrSizeUptoRow : OpenClaim := { program := "ytemkmaegjjpkjaadoor", sum := "a697ad737558805843f83ee18ba374610549d25e24a999249b2c37b9c9c44350", func := "callboy/callboylaw04.InstrSize", spec := "instrSize", named := ["callboy/instr.names"], apart := false, laid := [("callboy/instr.names", laid_callboy_instr_names)], narrowed := true }
def InstrSizeUptoSaid : Prop := instrSizeUptoRow.holds Tryd.pinned (OpenSpec.upto instrSizeSpec)

end Rows
end Go.Proofs.YtemkmaegjjpkjaaDoor
