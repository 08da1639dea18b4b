/-
  KindsRight: for every type, list and number the law returns true, and nothing is touched.
-/
import Derived.Test.YtbckmmodobennaaDoorKnLives
import Derived.Test.YtbckmmodobennaaDoorKnRow
namespace Go.Proofs.YtbckmmodobennaaDoor
open Go.RowKit
set_option linter.unusedVariables false

set_option maxHeartbeats 1000000 in
theorem right_law (t : Int) (a : Option Addr) (n cap : Nat) (X : Nat → Int) (m : Int) (w : World) (hR : Row w a n X) :
    Calls Tryd.prog 3 #[.int .i64 t, .slice a n cap, .int .i64 m] w fun e w' => e = .returned (.bool true) ∧ w = w' := by
  go_enter Tryd.func3, Tryd.ntmps3
  go_wp2_with (first
    | (go_at_call 9; refine (lives_calls _).mono ?_; rintro e w' ⟨rfl, rfl⟩)
    | (go_at_call 10; refine (actor_calls _ _).mono ?_; rintro e w' ⟨rfl, rfl⟩)
    | (go_at_call 11; refine (refActor_calls _ _).mono ?_; rintro e w' ⟨rfl, rfl⟩)
    | (go_at_call 12; refine (right_calls _ _ _).mono ?_; rintro e w' ⟨rfl, rfl⟩)
    | (go_at_call 13; refine (refRight_calls _ _ _).mono ?_; rintro e w' ⟨rfl, rfl⟩)
    | (go_at_call 14; refine (all_calls _ _ _ _ _ _ hR).mono ?_; rintro e w' ⟨rfl, rfl⟩)
    | (go_at_call 15; refine (refAll_calls _ _ _ _ _ _ hR).mono ?_; rintro e w' ⟨rfl, rfl⟩))
  go_ret
  exact ⟨rfl, rfl⟩
end Go.Proofs.YtbckmmodobennaaDoor
