/-
  DequeNil: a deque that isn't there.
-/
import Derived.Test.YtgciobmjcifipaaDqLives
namespace Go.Proofs.Ytgciobmjcifipaa
open Go.RowKit
set_option linter.unusedVariables false
set_option maxRecDepth 8192

set_option maxHeartbeats 2000000 in
theorem nil_law (bg : Bool) (n op v : Int) (w : World) :
    Calls Try.prog 8 #[.agg #[.bool bg, .int .i64 n, .int .i64 op, .int .i64 v]] w fun e w' => e = .returned (.bool true) ∧ Fr (fun _ => False) w w' := by
  go_enter Try.func8, Try.ntmps8
  go_wp2_with (first
    | (go_at_call 9; refine (lives_calls _).mono ?_; rintro e w1 ⟨rfl, hF⟩; have hB := hF.blk (blk_new _ _) (fun h => h); have c1 := (cell_at hB 1).trans rfl; have c2 := (cell_at hB 2).trans rfl; have c3 := (cell_at hB 3).trans rfl; have hZ := lt_of_blk hB)
    | (go_at_call 15; refine (step_nil _ _).mono ?_; rintro e w2 ⟨rfl, hF2⟩; simp only [dnV, Dn.none]; replace hB := hF2.blk hB (fun h => h); have d1 := (cell_at hB 1).trans rfl; have d2 := (cell_at hB 2).trans rfl; have d3 := (cell_at hB 3).trans rfl; have hZ2 := lt_of_blk hB)
    | (go_at_call 13; refine (nbegin _ _ _ _).mono ?_; rintro e w' ⟨rfl, rfl⟩)
    | (go_at_call 17; refine (ntop _).mono ?_; rintro e w' ⟨rfl, rfl⟩)
    | (go_at_call 18; refine (nbot _).mono ?_; rintro e w' ⟨rfl, rfl⟩)
    | (go_at_call 12; refine (nsize _).mono ?_; rintro e w' ⟨rfl, rfl⟩)
    | (go_at_call 19; refine (nbusy _ _).mono ?_; rintro e w' ⟨rfl, rfl⟩)
    | (go_at_call 21; refine (nitems _).mono ?_; rintro e w' ⟨rfl, rfl⟩))
  go_ret
  exact ⟨rfl, (((Fr.refl (fun _ => False) w).alloc _).trans hF (fun _ _ h => h) (fun _ _ h => h)).trans hF2 (fun _ _ h => h) (fun _ _ h => h) |>.alloc _⟩

end Go.Proofs.Ytgciobmjcifipaa
