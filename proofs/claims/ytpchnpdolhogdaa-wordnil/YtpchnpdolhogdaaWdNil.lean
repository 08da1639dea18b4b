/-
  WordNil: a word that isn't there.
-/
import Derived.Test.YtpchnpdolhogdaaWdLives
namespace Go.Proofs.Ytpchnpdolhogdaa
open Go.RowKit
set_option linter.unusedVariables false
set_option maxRecDepth 8192

set_option maxHeartbeats 2000000 in
theorem nil_law (bg : Bool) (n v : Int) (w : World) :
    Calls Try.prog 8 #[.agg #[.bool bg, .int .i64 n, .int .i64 v]] w fun e w' => e = .returned (.bool true) ∧ Fr (fun _ => False) w w' := by
  go_enter Try.func8, Try.ntmps8
  go_wp2_with (first
    | (go_at_call 9; refine (lives_calls _).mono ?_; rintro e w1 ⟨rfl, hF⟩; have hB := hF.blk (blk_new _ _) (fun h => h); have c1 := (cell_at hB 1).trans rfl; have c2 := (cell_at hB 2).trans rfl; have hZ := lt_of_blk hB)
    | (go_at_call 14; refine (nstep _ _).mono ?_; rintro e w2 ⟨rfl, rfl⟩)
    | (go_at_call 12; refine (nbegin _ _ _).mono ?_; rintro e w' ⟨rfl, rfl⟩)
    | (go_at_call 16; refine (nnow _).mono ?_; rintro e w' ⟨rfl, rfl⟩)
    | (go_at_call 18; refine (nbusy _ _).mono ?_; rintro e w' ⟨rfl, rfl⟩)
    | (go_at_call 17; refine (nholds _).mono ?_; rintro e w' ⟨rfl, rfl⟩))
  go_ret
  exact ⟨rfl, ((Fr.refl (fun _ => False) w).alloc _).trans hF (fun _ _ h => h) (fun _ _ h => h)⟩

end Go.Proofs.Ytpchnpdolhogdaa
