/-
  ArithDivides: for all numbers the law returns true, and nothing is touched.
-/
import Derived.Test.YtcajbdcgjagbbaaArRing
namespace Go.Proofs.Ytcajbdcgjagbbaa
open Go.RowKit
set_option linter.unusedVariables false

theorem ret_bool {a b : Bool} (h : a = b) : Ending.returned (.bool a) = .returned (.bool b) := by rw [h]

theorem quo_back (a b : Int) (h0 : -9223372036854775808 ≤ a) (h1 : a ≤ 9223372036854775807) : twoN 6 (twoN 8 (wrap64 (a.tdiv b)) b) (a.tmod b) = a := by
  simp only [two_add, two_mul]
  obtain ⟨k, hk⟩ := wrap_mod (a.tdiv b)
  obtain ⟨j, hj⟩ := wrap_mod (wrap64 (a.tdiv b) * b)
  rw [hj, hk, Int.add_mul]
  have e := Int.tmod_add_mul_tdiv a b
  rw [Int.mul_comm] at e
  have : wrap64 a = a := wrap_in h0 h1
  refine Eq.trans (wrap_eq (b := a) (k * b + j) ?_) this
  rw [Int.mul_assoc]
  omega

theorem left_pos (a b : Int) (ha : 0 ≤ a) (hb : b ≠ 0) : 0 ≤ a.tmod b ∧ (a.tmod b < b ∨ a.tmod b < -b) := by
  refine ⟨Int.tmod_nonneg b ha, ?_⟩
  have := Int.natAbs_tmod a b
  have h2 := Nat.mod_lt a.natAbs (show 0 < b.natAbs by omega)
  omega

theorem left_neg (a b : Int) (ha : a < 0) (hb : b ≠ 0) : a.tmod b ≤ 0 ∧ (-(a.tmod b) < b ∨ -(a.tmod b) < -b) := by
  have e : (-a).tmod b = -(a.tmod b) := Int.neg_tmod a b
  have := left_pos (-a) b (by omega) hb
  rw [e] at this
  omega

set_option maxHeartbeats 4000000 in
theorem divides_law (a b : Int) (h0 : -9223372036854775808 ≤ a) (h1 : a ≤ 9223372036854775807) (h2 : -9223372036854775808 ≤ b) (h3 : b ≤ 9223372036854775807) (w : World) :
    Calls Try.prog 6 #[.int .i64 a, .int .i64 b] w fun e w' => e = .returned (.bool true) ∧ w = w' := by
  by_cases hb : b = 0
  · subst hb
    go_enter Try.func6, Try.ntmps6
    go_wp2_with (first | (go_at_call 9; refine (lives_calls _).mono ?_; rintro e w' ⟨rfl, rfl⟩) | (go_at_call 10; refine (two_calls _ _ _ _).mono ?_; rintro e w' ⟨rfl, rfl⟩; first | rw [show twoN 9 a 0 = 0 from rfl, show twoE 9 0 = 15 from rfl] | rw [show twoN 10 a 0 = 0 from rfl, show twoE 10 0 = 15 from rfl]))
    go_ret
    exact ⟨rfl, rfl⟩
  have e1 := hide (show twoN 9 a b = wrap64 (a.tdiv b) by rw [two_div, if_neg hb])
  have e2 := hide (show twoE 9 b = 0 by unfold twoE; simp [hb])
  have e3 := hide (show twoN 10 a b = a.tmod b by rw [two_rem, if_neg hb])
  have e4 := hide (show twoE 10 b = 0 by unfold twoE; simp [hb])
  have e5 := hide (show ∀ y : Int, twoE 8 y = 0 from fun _ => rfl)
  have e6 := hide (show ∀ y : Int, twoE 6 y = 0 from fun _ => rfl)
  have hs := hide (quo_back a b h0 h1)
  have hr : (0 ≤ a ∧ 0 ≤ a.tmod b ∧ (a.tmod b < b ∨ a.tmod b < -b)) ∨ (a < 0 ∧ a.tmod b ≤ 0 ∧ (-(a.tmod b) < b ∨ -(a.tmod b) < -b)) := by
    by_cases ha : 0 ≤ a
    · exact .inl ⟨ha, left_pos a b ha hb⟩
    · exact .inr ⟨by omega, left_neg a b (by omega) hb⟩
  generalize hR : a.tmod b = r at *
  generalize hQ : wrap64 (a.tdiv b) = q at *
  clear hR hQ
  have key : (0 < b ∨ b < 0) ∧ ((r = 0) ∨ (0 < r ∧ ¬ a < 0) ∨ (r < 0 ∧ a < 0)) := by omega
  obtain ⟨kb, kr⟩ := key
  rcases kb with kb | kb
  · rcases kr with rfl | ⟨kr, ka⟩ | ⟨kr, ka⟩
    · clear hr
      go_enter Try.func6, Try.ntmps6
      go_wp2_with (first | (go_at_call 9; refine (lives_calls _).mono ?_; rintro e w' ⟨rfl, rfl⟩) | (go_at_call 10; refine (two_calls _ _ _ _).mono ?_; rintro e w' ⟨rfl, rfl⟩; first | rw [unhide e1, unhide e2] | rw [unhide e3, unhide e4] | rw [unhide hs, unhide e6] | rw [unhide e5]))
      go_ret
      exact ⟨rfl, rfl⟩
    · have l : r < b := by omega
      clear hr
      go_enter Try.func6, Try.ntmps6
      go_wp2_with (first | (go_at_call 9; refine (lives_calls _).mono ?_; rintro e w' ⟨rfl, rfl⟩) | (go_at_call 10; refine (two_calls _ _ _ _).mono ?_; rintro e w' ⟨rfl, rfl⟩; first | rw [unhide e1, unhide e2] | rw [unhide e3, unhide e4] | rw [unhide hs, unhide e6] | rw [unhide e5]))
      go_ret
      exact ⟨ret_bool (by simp; omega), rfl⟩
    · have l : -r < b := by omega
      clear hr
      go_enter Try.func6, Try.ntmps6
      go_wp2_with (first | (go_at_call 9; refine (lives_calls _).mono ?_; rintro e w' ⟨rfl, rfl⟩) | (go_at_call 10; refine (two_calls _ _ _ _).mono ?_; rintro e w' ⟨rfl, rfl⟩; first | rw [unhide e1, unhide e2] | rw [unhide e3, unhide e4] | rw [unhide hs, unhide e6] | rw [unhide e5]))
      go_ret
      exact ⟨rfl, rfl⟩
  · rcases kr with rfl | ⟨kr, ka⟩ | ⟨kr, ka⟩
    · clear hr
      go_enter Try.func6, Try.ntmps6
      go_wp2_with (first | (go_at_call 9; refine (lives_calls _).mono ?_; rintro e w' ⟨rfl, rfl⟩) | (go_at_call 10; refine (two_calls _ _ _ _).mono ?_; rintro e w' ⟨rfl, rfl⟩; first | rw [unhide e1, unhide e2] | rw [unhide e3, unhide e4] | rw [unhide hs, unhide e6] | rw [unhide e5]))
      go_ret
      exact ⟨rfl, rfl⟩
    · have l : b < -r := by omega
      clear hr
      go_enter Try.func6, Try.ntmps6
      go_wp2_with (first | (go_at_call 9; refine (lives_calls _).mono ?_; rintro e w' ⟨rfl, rfl⟩) | (go_at_call 10; refine (two_calls _ _ _ _).mono ?_; rintro e w' ⟨rfl, rfl⟩; first | rw [unhide e1, unhide e2] | rw [unhide e3, unhide e4] | rw [unhide hs, unhide e6] | rw [unhide e5]))
      go_ret
      exact ⟨ret_bool (by simp; omega), rfl⟩
    · have l : b < r := by omega
      clear hr
      go_enter Try.func6, Try.ntmps6
      go_wp2_with (first | (go_at_call 9; refine (lives_calls _).mono ?_; rintro e w' ⟨rfl, rfl⟩) | (go_at_call 10; refine (two_calls _ _ _ _).mono ?_; rintro e w' ⟨rfl, rfl⟩; first | rw [unhide e1, unhide e2] | rw [unhide e3, unhide e4] | rw [unhide hs, unhide e6] | rw [unhide e5]))
      go_ret
      exact ⟨rfl, rfl⟩
end Go.Proofs.Ytcajbdcgjagbbaa
