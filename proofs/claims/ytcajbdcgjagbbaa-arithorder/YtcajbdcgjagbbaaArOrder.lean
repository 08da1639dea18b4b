/-
  ArithOrder: for all numbers the law returns true, and nothing is touched.
-/
import Derived.Test.YtcajbdcgjagbbaaArCalls
namespace Go.Proofs.Ytcajbdcgjagbbaa
open Go.RowKit
set_option linter.unusedVariables false

theorem less_yes {a b : Int} (h : a < b) : twoN 11 a b = 1 := by rw [two_less]; simp [h, tt]
theorem less_no {a b : Int} (h : ¬ a < b) : twoN 11 a b = 0 := by rw [two_less]; simp [h, tt]
theorem same_yes {a b : Int} (h : a = b) : twoN 12 a b = 1 := by rw [two_eq]; simp [h, tt]
theorem same_no {a b : Int} (h : ¬ a = b) : twoN 12 a b = 0 := by rw [two_eq]; simp [h, tt]

set_option maxHeartbeats 4000000 in
theorem order_law (a b c : Int) (w : World) :
    Calls Try.prog 7 #[.int .i64 a, .int .i64 b, .int .i64 c] w fun e w' => e = .returned (.bool true) ∧ w = w' := by
  have e0 := hide (less_no (a := a) (b := a) (by omega))
  have e9 := hide (show twoE 12 b = 0 from rfl)
  by_cases h : a < b
  · have e1 := hide (less_yes h)
    have e2 := hide (less_no (a := b) (b := a) (by omega))
    have e3 := hide (same_no (a := a) (b := b) (by omega))
    by_cases k : b < c
    · have e4 := hide (less_yes k)
      have e5 := hide (less_yes (a := a) (b := c) (by omega))
      go_enter Try.func7, Try.ntmps7
      go_wp2_with (first | (go_at_call 9; refine (lives_calls _).mono ?_; rintro e w' ⟨rfl, rfl⟩) | (go_at_call 10; refine (two_calls _ _ _ _).mono ?_; rintro e w' ⟨rfl, rfl⟩; rw [unhide e9, unhide e3]) | (go_at_call 16; refine (less_calls _ _ _).mono ?_; rintro e w' ⟨rfl, rfl⟩; first | rw [unhide e1] | rw [unhide e2] | rw [unhide e4] | rw [unhide e5] | rw [unhide e0]))
      go_ret
      exact ⟨rfl, rfl⟩
    · have e4 := hide (less_no k)
      go_enter Try.func7, Try.ntmps7
      go_wp2_with (first | (go_at_call 9; refine (lives_calls _).mono ?_; rintro e w' ⟨rfl, rfl⟩) | (go_at_call 10; refine (two_calls _ _ _ _).mono ?_; rintro e w' ⟨rfl, rfl⟩; rw [unhide e9, unhide e3]) | (go_at_call 16; refine (less_calls _ _ _).mono ?_; rintro e w' ⟨rfl, rfl⟩; first | rw [unhide e1] | rw [unhide e2] | rw [unhide e4] | rw [unhide e0]))
      go_ret
      exact ⟨rfl, rfl⟩
  · have e1 := hide (less_no h)
    by_cases k : a = b
    · subst k
      have e3 := hide (same_yes (a := a) (b := a) rfl)
      clear e1 h
      go_enter Try.func7, Try.ntmps7
      go_wp2_with (first | (go_at_call 9; refine (lives_calls _).mono ?_; rintro e w' ⟨rfl, rfl⟩) | (go_at_call 10; refine (two_calls _ _ _ _).mono ?_; rintro e w' ⟨rfl, rfl⟩; rw [unhide e9, unhide e3]) | (go_at_call 16; refine (less_calls _ _ _).mono ?_; rintro e w' ⟨rfl, rfl⟩; rw [unhide e0]))
      go_ret
      exact ⟨rfl, rfl⟩
    · have e2 := hide (less_yes (a := b) (b := a) (by omega))
      have e3 := hide (same_no k)
      go_enter Try.func7, Try.ntmps7
      go_wp2_with (first | (go_at_call 9; refine (lives_calls _).mono ?_; rintro e w' ⟨rfl, rfl⟩) | (go_at_call 10; refine (two_calls _ _ _ _).mono ?_; rintro e w' ⟨rfl, rfl⟩; rw [unhide e9, unhide e3]) | (go_at_call 16; refine (less_calls _ _ _).mono ?_; rintro e w' ⟨rfl, rfl⟩; first | rw [unhide e1] | rw [unhide e2] | rw [unhide e0]))
      go_ret
      exact ⟨rfl, rfl⟩
end Go.Proofs.Ytcajbdcgjagbbaa
