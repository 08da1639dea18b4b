/-
  Moves that came in.
-/
import Derived.Test.YtingpopcdihclabArrs
namespace Go.Proofs.Ytingpopcdihclab
open Go.RowKit
set_option linter.unusedVariables false

/-- a move -/
structure Mv where
  bg : Bool
  n : Int
  v : Int
def MvV (vs : List Value) (m : Mv) : Prop := vs = [.bool m.bg, .int .i64 m.n, .int .i64 m.v] ∧ I64 m.n ∧ I64 m.v
abbrev MvA := Arr MvV 3

end Go.Proofs.Ytingpopcdihclab
