/-
  lives: pid3. And KindsOf: for every number the law returns true, and nothing is touched.
-/
import Derived.Test.YtbckmmodobennaaDoorKnName
import Derived.Test.YtbckmmodobennaaDoorKnParse
namespace Go.Proofs.YtbckmmodobennaaDoor
open Go.RowKit
set_option linter.unusedVariables false

set_option maxHeartbeats 1000000 in
theorem lives_calls (w : World) : Calls Tryd.prog 9 #[] w fun e w' => e = .returned (.bool true) ∧ w = w' := by
  go_enter Tryd.func9, Tryd.ntmps9
  go_wp2_with (first | (go_at_call 17; refine (parse_pid 51 _).mono ?_; rintro e w' ⟨rfl, rfl⟩; rw [show ofN ((((51 : UInt8).toNat : Nat) : Int) - 48) = 19 from rfl, show ofOk ((((51 : UInt8).toNat : Nat) : Int) - 48) = true from rfl]) | (go_at_call 21; refine (name_calls _ _).mono ?_; rintro e w' ⟨rfl, rfl⟩; rw [show nameS 19 = ⟨#[112, 105, 100, 51]⟩ from rfl]) | go_in)
  go_ret
  exact ⟨rfl, rfl⟩

set_option maxHeartbeats 1000000 in
theorem of_law (k : Int) (h0 : -9223372036854775808 ≤ k) (h1 : k ≤ 9223372036854775807) (w : World) : Calls Tryd.prog 4 #[.int .i64 k] w fun e w' => e = .returned (.bool true) ∧ w = w' := by
  by_cases h : 0 ≤ k ∧ k < 8
  · have e1 := hide (show ofN k = 16 + k by unfold ofN; rw [if_pos h])
    have e2 := hide (show ofOk k = true by unfold ofOk; simp [h])
    have e3 := hide (show actN (16 + k) = k by unfold actN; rw [if_pos (by omega)]; omega)
    have e4 := hide (show actOk (16 + k) = true by unfold actOk; simp; omega)
    have e5 := hide (show rightB (16 + k) (k + 1) = true by unfold rightB; simp; omega)
    have e6 := hide (show rightB (16 + k) k = false by unfold rightB; simp; omega)
    obtain ⟨h2, h3⟩ := h
    go_enter Tryd.func4, Tryd.ntmps4
    go_wp2_with (first | (go_at_call 9; refine (lives_calls _).mono ?_; rintro e w' ⟨rfl, rfl⟩) | (go_at_call 16; refine (of_calls _ _).mono ?_; rintro e w' ⟨rfl, rfl⟩; rw [unhide e1, unhide e2]) | (go_at_call 10; refine (actor_calls _ _).mono ?_; rintro e w' ⟨rfl, rfl⟩; rw [unhide e3, unhide e4]) | (go_at_call 12; refine (right_calls _ _ _).mono ?_; rintro e w' ⟨rfl, rfl⟩; first | rw [unhide e5] | rw [unhide e6]))
    go_ret
    exact ⟨rfl, rfl⟩
  · have e1 := hide (show ofN k = 0 by unfold ofN; rw [if_neg h])
    have e2 := hide (show ofOk k = false by unfold ofOk; simp; omega)
    by_cases h2 : 0 ≤ k
    · have h3 : ¬ k < 8 := by omega
      clear h
      go_enter Tryd.func4, Tryd.ntmps4
      go_wp2_with (first | (go_at_call 9; refine (lives_calls _).mono ?_; rintro e w' ⟨rfl, rfl⟩) | (go_at_call 16; refine (of_calls _ _).mono ?_; rintro e w' ⟨rfl, rfl⟩; rw [unhide e1, unhide e2]))
      go_ret
      exact ⟨rfl, rfl⟩
    · clear h
      go_enter Tryd.func4, Tryd.ntmps4
      go_wp2_with (first | (go_at_call 9; refine (lives_calls _).mono ?_; rintro e w' ⟨rfl, rfl⟩) | (go_at_call 16; refine (of_calls _ _).mono ?_; rintro e w' ⟨rfl, rfl⟩; rw [unhide e1, unhide e2]))
      go_ret
      exact ⟨rfl, rfl⟩
end Go.Proofs.YtbckmmodobennaaDoor
