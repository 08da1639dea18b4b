/-
  RingNil: a ring that isn't there.
-/
import Derived.Test.YtkojdjeiblknhaaRgAllLaw
namespace Go.Proofs.Ytkojdjeiblknhaa
open Go.RowKit
set_option linter.unusedVariables false
set_option maxRecDepth 8192

theorem Own1.nil {w : World} {lo : Nat} {v : Value} (h : Own1 w lo v []) : ∃ a c, v = .slice a 0 c := by
  obtain ⟨a, c, h1, _⟩ := h.arr (by simp)
  exact ⟨a, c, h1⟩

set_option maxHeartbeats 4000000 in
theorem nil_law (x i : Int) (w : World) :
    Calls Try.prog 7 #[.int .i64 x, .int .i64 i] w fun e w' => e = .returned (.bool true) ∧ Fr (fun _ => False) w w' := by
  go_enter Try.func7, Try.ntmps7
  go_wp2_with (first
    | (go_at_call 9; refine (lives_calls _).mono ?_; rintro e w1 ⟨rfl, hF⟩)
    | (go_at_call 18; refine (ntake _).mono ?_; rintro e w2 ⟨rfl, rfl⟩)
    | (go_at_call 20; refine (npop _).mono ?_; rintro e w2 ⟨rfl, rfl⟩)
    | (go_at_call 23; refine (nat' _ _).mono ?_; rintro e w2 ⟨rfl, rfl⟩)
    | (go_at_call 14; refine (nput _ _).mono ?_; rintro e w2 ⟨rfl, rfl⟩)
    | (go_at_call 16; refine (npush _ _).mono ?_; rintro e w2 ⟨rfl, rfl⟩)
    | (go_at_call 22; refine (nlen _).mono ?_; rintro e w2 ⟨rfl, rfl⟩)
    | (go_at_call 12; refine (nsize _).mono ?_; rintro e w2 ⟨rfl, rfl⟩)
    | (go_at_call 26; refine (nall _).mono ?_; rintro e w2 ⟨v, rfl, hO, hF2⟩; obtain ⟨a0, c0, rfl⟩ := hO.nil))
  go_ret
  exact ⟨by simp, hF.trans hF2 (fun _ _ h => h) (fun _ _ h => h)⟩

end Go.Proofs.Ytkojdjeiblknhaa
