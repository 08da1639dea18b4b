/-
  No cell of these rows narrows 'for every input' (looked for: loops, veiled, ifaces, maps, wideKeys, modest, calm, conditions, laid).
  DERIVED. THE GIVEN ROWS OF THIS SEAT. 6 by the template 'for every input the law returns true; each argument reads behind the call as it read before'; 0 by the template 'total and deterministic' (their statements: YtmmfmjaljgkobaaTotals.lean).
  GIVEN WITH THE SEED: the statements are not yours to turn. If you find one false, say at which input.
  Laid BY PROGRAM, IN A SANDBOX (cutbox-rows.mjs): the forced cells as the released guide's own fill.sh prints them over the translation 7f4b66a6b5ecd38a… (all of the seat's roots in one cut). By AI agents, Wed Nov 11 2026. No macro, syntax, notation, axiom, sorry.
-/
import Derived.Test.YtmmfmjaljgkobaaChecked
import GoSem.Claim
import GoSem.ClaimJoined
import GoSem.ClaimMapViews
import Derived.JoinedTies
import Derived.KernelRfl
namespace Go.Proofs.Ytmmfmjaljgkobaa
/- THE CELL 'sum', in the pinned program and in every row, IS THE sha256 OF THE DUMP (.gsa) THAT YtmmfmjaljgkobaaProg.lean LOADS. Nothing in Lean hashes anything: it is a label: what it is worth is what the hold of that sum in a sandbox is worth. -/
noncomputable def Try.pinned : Pinned := { name := "ytmmfmjaljgkobaa", sum := "7f4b66a6b5ecd38a0f5b11f396f927f659526aec5e4ad408cbea4ba2cc7b3877", checked := Try.checked }
namespace Rows
def none {H : Type} : Left H := { results := [], args := [] }

/-- 'callboylaw05.ModuleBytes': WHATEVER THE INPUT: true; the input reads as it did. -/
def moduleBytesSpec : ChangeSpec := { name := "moduleBytes", fn := fun _ => fun
  | [d] => { results := [.lit (.bool true)], args := [d] }
  | _ => none }
def moduleBytesRow : OpenClaim := { program := "ytmmfmjaljgkobaa", sum := "7f4b66a6b5ecd38a0f5b11f396f927f659526aec5e4ad408cbea4ba2cc7b3877", func := "callboy/callboylaw05.ModuleBytes", spec := "moduleBytes", unfollowed := true, recurses := true, apart := false }
def ModuleBytesSaid : Prop := moduleBytesRow.holds Try.pinned (OpenSpec.ofChange moduleBytesSpec)

/-- ITS FALSE NEIGHBOUR: 'it returns false'. Refute it at one input. -/
def moduleBytesWrong : ChangeSpec := { name := "moduleBytes", fn := fun _ => fun
  | [d] => { results := [.lit (.bool false)], args := [d] }
  | _ => none }
def ModuleBytesWrongFalsely : Prop := moduleBytesRow.holds Try.pinned (OpenSpec.ofChange moduleBytesWrong)

/-- 'callboylaw05.ModuleReads': WHATEVER THE INPUT: true; the input reads as it did. -/
def moduleReadsSpec : ChangeSpec := { name := "moduleReads", fn := fun _ => fun
  | [d] => { results := [.lit (.bool true)], args := [d] }
  | _ => none }
def moduleReadsRow : OpenClaim := { program := "ytmmfmjaljgkobaa", sum := "7f4b66a6b5ecd38a0f5b11f396f927f659526aec5e4ad408cbea4ba2cc7b3877", func := "callboy/callboylaw05.ModuleReads", spec := "moduleReads", unfollowed := true, recurses := true, apart := false }
def ModuleReadsSaid : Prop := moduleReadsRow.holds Try.pinned (OpenSpec.ofChange moduleReadsSpec)

/-- ITS FALSE NEIGHBOUR: 'it returns false'. Refute it at one input. -/
def moduleReadsWrong : ChangeSpec := { name := "moduleReads", fn := fun _ => fun
  | [d] => { results := [.lit (.bool false)], args := [d] }
  | _ => none }
def ModuleReadsWrongFalsely : Prop := moduleReadsRow.holds Try.pinned (OpenSpec.ofChange moduleReadsWrong)

/-- 'callboylaw05.ModuleBack': WHATEVER THE INPUT: true; the input reads as it did. -/
def moduleBackSpec : ChangeSpec := { name := "moduleBack", fn := fun _ => fun
  | [d1, d2] => { results := [.lit (.bool true)], args := [d1, d2] }
  | _ => none }
def moduleBackRow : OpenClaim := { program := "ytmmfmjaljgkobaa", sum := "7f4b66a6b5ecd38a0f5b11f396f927f659526aec5e4ad408cbea4ba2cc7b3877", func := "callboy/callboylaw05.ModuleBack", spec := "moduleBack", unfollowed := true, recurses := true, apart := false }
def ModuleBackSaid : Prop := moduleBackRow.holds Try.pinned (OpenSpec.ofChange moduleBackSpec)

/-- ITS FALSE NEIGHBOUR: 'it returns false'. Refute it at one input. -/
def moduleBackWrong : ChangeSpec := { name := "moduleBack", fn := fun _ => fun
  | [d1, d2] => { results := [.lit (.bool false)], args := [d1, d2] }
  | _ => none }
def ModuleBackWrongFalsely : Prop := moduleBackRow.holds Try.pinned (OpenSpec.ofChange moduleBackWrong)

/-- 'callboylaw05.ModuleWhole': WHATEVER THE INPUT: true; the input reads as it did. -/
def moduleWholeSpec : ChangeSpec := { name := "moduleWhole", fn := fun _ => fun
  | [d1, d2, d3] => { results := [.lit (.bool true)], args := [d1, d2, d3] }
  | _ => none }
def moduleWholeRow : OpenClaim := { program := "ytmmfmjaljgkobaa", sum := "7f4b66a6b5ecd38a0f5b11f396f927f659526aec5e4ad408cbea4ba2cc7b3877", func := "callboy/callboylaw05.ModuleWhole", spec := "moduleWhole", unfollowed := true, recurses := true, apart := false }
def ModuleWholeSaid : Prop := moduleWholeRow.holds Try.pinned (OpenSpec.ofChange moduleWholeSpec)

/-- ITS FALSE NEIGHBOUR: 'it returns false'. Refute it at one input. -/
def moduleWholeWrong : ChangeSpec := { name := "moduleWhole", fn := fun _ => fun
  | [d1, d2, d3] => { results := [.lit (.bool false)], args := [d1, d2, d3] }
  | _ => none }
def ModuleWholeWrongFalsely : Prop := moduleWholeRow.holds Try.pinned (OpenSpec.ofChange moduleWholeWrong)

/-- 'callboylaw05.ModuleEach': WHATEVER THE INPUT: true; the input reads as it did. -/
def moduleEachSpec : ChangeSpec := { name := "moduleEach", fn := fun _ => fun
  | [d1, d2] => { results := [.lit (.bool true)], args := [d1, d2] }
  | _ => none }
def moduleEachRow : OpenClaim := { program := "ytmmfmjaljgkobaa", sum := "7f4b66a6b5ecd38a0f5b11f396f927f659526aec5e4ad408cbea4ba2cc7b3877", func := "callboy/callboylaw05.ModuleEach", spec := "moduleEach", unfollowed := true, recurses := true, apart := false }
def ModuleEachSaid : Prop := moduleEachRow.holds Try.pinned (OpenSpec.ofChange moduleEachSpec)

/-- ITS FALSE NEIGHBOUR: 'it returns false'. Refute it at one input. -/
def moduleEachWrong : ChangeSpec := { name := "moduleEach", fn := fun _ => fun
  | [d1, d2] => { results := [.lit (.bool false)], args := [d1, d2] }
  | _ => none }
def ModuleEachWrongFalsely : Prop := moduleEachRow.holds Try.pinned (OpenSpec.ofChange moduleEachWrong)

/-- 'callboylaw05.ModuleSame': WHATEVER THE INPUT: true; the input reads as it did. -/
def moduleSameSpec : ChangeSpec := { name := "moduleSame", fn := fun _ => fun
  | [d1, d2] => { results := [.lit (.bool true)], args := [d1, d2] }
  | _ => none }
def moduleSameRow : OpenClaim := { program := "ytmmfmjaljgkobaa", sum := "7f4b66a6b5ecd38a0f5b11f396f927f659526aec5e4ad408cbea4ba2cc7b3877", func := "callboy/callboylaw05.ModuleSame", spec := "moduleSame", unfollowed := true, recurses := true, apart := false }
def ModuleSameSaid : Prop := moduleSameRow.holds Try.pinned (OpenSpec.ofChange moduleSameSpec)

/-- ITS FALSE NEIGHBOUR: 'it returns false'. Refute it at one input. -/
def moduleSameWrong : ChangeSpec := { name := "moduleSame", fn := fun _ => fun
  | [d1, d2] => { results := [.lit (.bool false)], args := [d1, d2] }
  | _ => none }
def ModuleSameWrongFalsely : Prop := moduleSameRow.holds Try.pinned (OpenSpec.ofChange moduleSameWrong)

/- THE SECOND FORM. 'bulk': how many values and letters a reading holds, each counted each time it is reached (what is shared counts as often as it is met; a slice's spare places count too). A statement '..UptoSaid' is the law's where the arguments, and the package variables that the reading takes, are together of bulk at most 1048576: NARROWER than '..Said'. Prove '..Said' where nothing that the law and all that it calls make is longer than what came in: it says more and counts as full. Else prove '..UptoSaid'. A law counts once. -/
mutual
def uptoBulk {H : Type} : DataW H → Nat
  | .lit (.string bytes) => bytes.length + 1
  | .lit _ => 1
  | .nil => 1
  | .ptr d => uptoBulk d + 1
  | .slice elems spare => uptoBulkAll elems + uptoBulkAll spare + 1
  | .agg parts => uptoBulkAll parts + 1
  | .iface _ d => uptoBulk d + 1
  | .map entries => uptoBulkEntries entries + 1
  | .held _ => 1
def uptoBulkAll {H : Type} : List (DataW H) → Nat
  | [] => 0
  | d :: r => uptoBulk d + uptoBulkAll r
def uptoBulkEntries {H : Type} : List (Lit × DataW H) → Nat
  | [] => 0
  | x :: r => uptoBulkEntry x + uptoBulkEntries r
def uptoBulkEntry {H : Type} : Lit × DataW H → Nat
  | (.string bytes, d) => bytes.length + uptoBulk d + 1
  | (_, d) => uptoBulk d + 1
 end
def uptoSmall : (H : Type) → List (DataW H) → Bool := fun _ ds => decide (uptoBulkAll ds ≤ 1048576)
def OpenSpec.upto (s : _root_.Go.ChangeSpec) : _root_.Go.OpenSpec := { _root_.Go.OpenSpec.ofChange s with cond := some uptoSmall }

/-- 'callboylaw05.ModuleBytes', WHERE WHAT IT READS IS OF BULK AT MOST 1048576: true; the input reads as it did. -/
def moduleBytesUptoRow : OpenClaim := { program := "ytmmfmjaljgkobaa", sum := "7f4b66a6b5ecd38a0f5b11f396f927f659526aec5e4ad408cbea4ba2cc7b3877", func := "callboy/callboylaw05.ModuleBytes", spec := "moduleBytes", unfollowed := true, recurses := true, apart := false, narrowed := true }
def ModuleBytesUptoSaid : Prop := moduleBytesUptoRow.holds Try.pinned (OpenSpec.upto moduleBytesSpec)

/-- 'callboylaw05.ModuleReads', WHERE WHAT IT READS IS OF BULK AT MOST 1048576: true; the input reads as it did. -/
def moduleReadsUptoRow : OpenClaim := { program := "ytmmfmjaljgkobaa", sum := "7f4b66a6b5ecd38a0f5b11f396f927f659526aec5e4ad408cbea4ba2cc7b3877", func := "callboy/callboylaw05.ModuleReads", spec := "moduleReads", unfollowed := true, recurses := true, apart := false, narrowed := true }
def ModuleReadsUptoSaid : Prop := moduleReadsUptoRow.holds Try.pinned (OpenSpec.upto moduleReadsSpec)

/-- 'callboylaw05.ModuleBack', WHERE WHAT IT READS IS OF BULK AT MOST 1048576: true; the input reads as it did. -/
def moduleBackUptoRow : OpenClaim := { program := "ytmmfmjaljgkobaa", sum := "7f4b66a6b5ecd38a0f5b11f396f927f659526aec5e4ad408cbea4ba2cc7b3877", func := "callboy/callboylaw05.ModuleBack", spec := "moduleBack", unfollowed := true, recurses := true, apart := false, narrowed := true }
def ModuleBackUptoSaid : Prop := moduleBackUptoRow.holds Try.pinned (OpenSpec.upto moduleBackSpec)

/-- 'callboylaw05.ModuleWhole', WHERE WHAT IT READS IS OF BULK AT MOST 1048576: true; the input reads as it did. -/
def moduleWholeUptoRow : OpenClaim := { program := "ytmmfmjaljgkobaa", sum := "7f4b66a6b5ecd38a0f5b11f396f927f659526aec5e4ad408cbea4ba2cc7b3877", func := "callboy/callboylaw05.ModuleWhole", spec := "moduleWhole", unfollowed := true, recurses := true, apart := false, narrowed := true }
def ModuleWholeUptoSaid : Prop := moduleWholeUptoRow.holds Try.pinned (OpenSpec.upto moduleWholeSpec)

/-- 'callboylaw05.ModuleEach', WHERE WHAT IT READS IS OF BULK AT MOST 1048576: true; the input reads as it did. -/
def moduleEachUptoRow : OpenClaim := { program := "ytmmfmjaljgkobaa", sum := "7f4b66a6b5ecd38a0f5b11f396f927f659526aec5e4ad408cbea4ba2cc7b3877", func := "callboy/callboylaw05.ModuleEach", spec := "moduleEach", unfollowed := true, recurses := true, apart := false, narrowed := true }
def ModuleEachUptoSaid : Prop := moduleEachUptoRow.holds Try.pinned (OpenSpec.upto moduleEachSpec)

/-- 'callboylaw05.ModuleSame', WHERE WHAT IT READS IS OF BULK AT MOST 1048576: true; the input reads as it did. -/
def moduleSameUptoRow : OpenClaim := { program := "ytmmfmjaljgkobaa", sum := "7f4b66a6b5ecd38a0f5b11f396f927f659526aec5e4ad408cbea4ba2cc7b3877", func := "callboy/callboylaw05.ModuleSame", spec := "moduleSame", unfollowed := true, recurses := true, apart := false, narrowed := true }
def ModuleSameUptoSaid : Prop := moduleSameUptoRow.holds Try.pinned (OpenSpec.upto moduleSameSpec)

end Rows
end Go.Proofs.Ytmmfmjaljgkobaa
