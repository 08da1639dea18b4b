/-
  ArithTruths: for all numbers the law returns true, and nothing is touched.
-/
import Derived.Test.YtcajbdcgjagbbaaArCalls
namespace Go.Proofs.Ytcajbdcgjagbbaa
open Go.RowKit
set_option linter.unusedVariables false

set_option maxHeartbeats 4000000 in
theorem truths_law (a b : Int) (w : World) :
    Calls Try.prog 8 #[.int .i64 a, .int .i64 b] w fun e w' => e = .returned (.bool true) ∧ w = w' := by
  have f1 : ∀ x y : Int, twoN 14 x y = tt (x != 0 && y != 0) := fun _ _ => rfl
  have f2 : ∀ x y : Int, twoN 15 x y = tt (x != 0 || y != 0) := fun _ _ => rfl
  have f3 : ∀ x : Int, oneN 13 x = tt (!(x != 0)) := fun _ => rfl
  have E1 : ∀ y : Int, Hid (twoE 14 y = 0) := fun _ => rfl
  have E2 : ∀ y : Int, Hid (twoE 15 y = 0) := fun _ => rfl
  have E3 := hide (show oneE 13 = 0 from rfl)
  have t0 : tt false = 0 := rfl
  have t1 : tt true = 1 := rfl
  by_cases ha : a = 0 <;> by_cases hb : b = 0
  · subst ha hb
    go_enter Try.func8, Try.ntmps8
    go_wp2_with (first | (go_at_call 9; refine (lives_calls _).mono ?_; rintro e w' ⟨rfl, rfl⟩) | (go_at_call 10; refine (two_calls _ _ _ _).mono ?_; rintro e w' ⟨rfl, rfl⟩; (first | rw [f1, unhide (E1 _)] | rw [f2, unhide (E2 _)])) | (go_at_call 12; refine (one_calls _ _ _).mono ?_; rintro e w' ⟨rfl, rfl⟩; rw [f3, unhide E3]) | (go_at_call 17; refine (truth_calls _ _).mono ?_; rintro e w' ⟨rfl, rfl⟩))
    go_ret
    exact ⟨rfl, rfl⟩
  · subst ha
    have hy := hide (show (b != 0) = true by simp [hb])
    go_enter Try.func8, Try.ntmps8
    go_wp2_with (first | (go_at_call 9; refine (lives_calls _).mono ?_; rintro e w' ⟨rfl, rfl⟩) | (go_at_call 10; refine (two_calls _ _ _ _).mono ?_; rintro e w' ⟨rfl, rfl⟩; (first | rw [f1, unhide (E1 _)] | rw [f2, unhide (E2 _)]); try rw [unhide hy]) | (go_at_call 12; refine (one_calls _ _ _).mono ?_; rintro e w' ⟨rfl, rfl⟩; rw [f3, unhide E3]; try rw [unhide hy]) | (go_at_call 17; refine (truth_calls _ _).mono ?_; rintro e w' ⟨rfl, rfl⟩; try rw [unhide hy]))
    go_ret
    exact ⟨rfl, rfl⟩
  · subst hb
    have hx := hide (show (a != 0) = true by simp [ha])
    go_enter Try.func8, Try.ntmps8
    go_wp2_with (first | (go_at_call 9; refine (lives_calls _).mono ?_; rintro e w' ⟨rfl, rfl⟩) | (go_at_call 10; refine (two_calls _ _ _ _).mono ?_; rintro e w' ⟨rfl, rfl⟩; (first | rw [f1, unhide (E1 _)] | rw [f2, unhide (E2 _)]); try rw [unhide hx]) | (go_at_call 12; refine (one_calls _ _ _).mono ?_; rintro e w' ⟨rfl, rfl⟩; rw [f3, unhide E3]; try rw [unhide hx]) | (go_at_call 17; refine (truth_calls _ _).mono ?_; rintro e w' ⟨rfl, rfl⟩; try rw [unhide hx]))
    go_ret
    exact ⟨rfl, rfl⟩
  · have hx := hide (show (a != 0) = true by simp [ha])
    have hy := hide (show (b != 0) = true by simp [hb])
    go_enter Try.func8, Try.ntmps8
    go_wp2_with (first | (go_at_call 9; refine (lives_calls _).mono ?_; rintro e w' ⟨rfl, rfl⟩) | (go_at_call 10; refine (two_calls _ _ _ _).mono ?_; rintro e w' ⟨rfl, rfl⟩; (first | rw [f1, unhide (E1 _)] | rw [f2, unhide (E2 _)]); try rw [unhide hx]; try rw [unhide hy]) | (go_at_call 12; refine (one_calls _ _ _).mono ?_; rintro e w' ⟨rfl, rfl⟩; rw [f3, unhide E3]; try rw [unhide hx]; try rw [unhide hy]) | (go_at_call 17; refine (truth_calls _ _).mono ?_; rintro e w' ⟨rfl, rfl⟩; try rw [unhide hx]; try rw [unhide hy]))
    go_ret
    exact ⟨rfl, rfl⟩
end Go.Proofs.Ytcajbdcgjagbbaa
