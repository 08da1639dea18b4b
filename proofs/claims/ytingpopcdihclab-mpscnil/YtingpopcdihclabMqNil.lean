/-
  MpscNil: a queue that isn't there.
-/
import Derived.Test.YtingpopcdihclabMqLives
namespace Go.Proofs.Ytingpopcdihclab
open Go.RowKit
set_option linter.unusedVariables false
set_option maxRecDepth 8192

set_option maxHeartbeats 2000000 in
theorem nil_law (bg : Bool) (n v : Int) (w : World) :
    Calls Try.prog 7 #[.agg #[.bool bg, .int .i64 n, .int .i64 v]] w fun e w' => e = .returned (.bool true) ∧ Fr (fun _ => False) w w' := by
  have HI := hide (fun w1 => (nitems w1).mono (R' := fun e w' => ∃ a c, e = .returned (.slice a 0 c) ∧ Fr (fun _ => False) w1 w') (fun e w' ⟨v, h1, h2, h3⟩ => by
    obtain ⟨a, c, rfl, _⟩ := h2.cell
    exact ⟨a, c, h1, h3⟩))
  go_enter Try.func7, Try.ntmps7
  go_wp2_with (first
    | (go_at_call 9; refine (lives_calls _).mono ?_; rintro e w1 ⟨rfl, hF⟩; have hB := hF.blk (blk_new _ _) (fun h => h); have c1 := (cell_at hB 1).trans rfl; have c2 := (cell_at hB 2).trans rfl; have hZ := lt_of_blk hB)
    | (go_at_call 14; refine (nstep _ _).mono ?_; rintro e w2 ⟨rfl, hF2⟩; simp only [qnV, Qn.none]; replace hB := hF2.blk hB (fun h => h); have d1 := (cell_at hB 1).trans rfl; have d2 := (cell_at hB 2).trans rfl; have hZ2 := lt_of_blk hB)
    | (go_at_call 12; refine (nbegin _ _ _).mono ?_; rintro e w' ⟨rfl, rfl⟩)
    | (go_at_call 16; refine (nbusy _ _).mono ?_; rintro e w' ⟨rfl, rfl⟩)
    | (go_at_call 18; refine (unhide HI _).mono ?_; rintro e w3 ⟨a, c, rfl, hF3⟩))
  go_ret
  exact ⟨rfl, ((((Fr.refl (fun _ => False) w).alloc _).trans hF (fun _ _ h => h) (fun _ _ h => h)).trans hF2 (fun _ _ h => h) (fun _ _ h => h) |>.alloc _).trans hF3 (fun _ _ h => h) (fun _ _ h => h)⟩

end Go.Proofs.Ytingpopcdihclab
