/-
  Moves, rows of a script that came in.
-/
import Derived.Test.YtpchnpdolhogdaaArr0
namespace Go.Proofs.Ytpchnpdolhogdaa
open Go.RowKit
set_option linter.unusedVariables false

/-- a move -/
structure Mv where
  bg : Bool
  n : Int
  v : Int
def MvV (vs : List Value) (m : Mv) : Prop := vs = [.bool m.bg, .int .i64 m.n, .int .i64 m.v] ∧ I64 m.n ∧ I64 m.v
abbrev MvA := Arr MvV 3
/-- a row of a script: a thread's number, what the holder begins -/
structure Rw where
  t : Int
  o : Int
def RwV (vs : List Value) (r : Rw) : Prop := vs = [.int .i64 r.t, .int .i64 r.o] ∧ I64 r.t ∧ I64 r.o
abbrev RwA := Arr RwV 2

end Go.Proofs.Ytpchnpdolhogdaa
