/-
  ArithRing: for all numbers the law returns true, and nothing is touched.
-/
import Derived.Test.YtcajbdcgjagbbaaArCalls
namespace Go.Proofs.Ytcajbdcgjagbbaa
open Go.RowKit
set_option linter.unusedVariables false

theorem wrap_in {a : Int} (h0 : -9223372036854775808 ≤ a) (h1 : a ≤ 9223372036854775807) : wrap64 a = a := by unfold wrap64; omega

theorem wrap_mod (a : Int) : ∃ k : Int, wrap64 a = a + 18446744073709551616 * k := by
  refine ⟨- ((a + 9223372036854775808) / 18446744073709551616), ?_⟩
  unfold wrap64
  omega

theorem wrap_add (a k : Int) : wrap64 (a + 18446744073709551616 * k) = wrap64 a := by unfold wrap64; omega

theorem wrap_eq {a b : Int} (k : Int) (h : a = b + 18446744073709551616 * k) : wrap64 a = wrap64 b := by rw [h, wrap_add]

theorem ring_comm (a b : Int) : twoN 6 b a = twoN 6 a b := by rw [two_add, two_add, Int.add_comm]
theorem ring_assoc (a b c : Int) : twoN 6 a (twoN 6 b c) = twoN 6 (twoN 6 a b) c := by
  simp only [two_add]
  unfold wrap64
  omega
theorem ring_mcomm (a b : Int) : twoN 8 b a = twoN 8 a b := by rw [two_mul, two_mul, Int.mul_comm]
theorem ring_massoc (a b c : Int) : twoN 8 a (twoN 8 b c) = twoN 8 (twoN 8 a b) c := by
  simp only [two_mul]
  obtain ⟨k, hk⟩ := wrap_mod (b * c)
  obtain ⟨j, hj⟩ := wrap_mod (a * b)
  rw [hk, hj]
  refine wrap_eq (a * k - j * c) ?_
  rw [Int.mul_add, Int.add_mul, Int.mul_assoc a b c, Int.mul_sub, Int.mul_left_comm a 18446744073709551616 k, Int.mul_assoc _ j c]
  omega
theorem ring_dist (a b c : Int) : twoN 8 a (twoN 6 b c) = twoN 6 (twoN 8 a b) (twoN 8 a c) := by
  simp only [two_mul, two_add]
  obtain ⟨k, hk⟩ := wrap_mod (b + c)
  obtain ⟨i, hi⟩ := wrap_mod (a * b)
  obtain ⟨j, hj⟩ := wrap_mod (a * c)
  rw [hk, hi, hj]
  refine wrap_eq (a * k - i - j) ?_
  rw [Int.mul_add, Int.mul_add, Int.mul_left_comm a 18446744073709551616 k]
  omega
theorem ring_back (a b : Int) (h0 : -9223372036854775808 ≤ a) (h1 : a ≤ 9223372036854775807) : twoN 6 (twoN 7 a b) b = a := by
  simp only [two_sub, two_add]
  unfold wrap64
  omega
theorem ring_one (a : Int) (h0 : -9223372036854775808 ≤ a) (h1 : a ≤ 9223372036854775807) : twoN 8 a 1 = a := by rw [two_mul, Int.mul_one, wrap_in h0 h1]
theorem ring_zero (a : Int) (h0 : -9223372036854775808 ≤ a) (h1 : a ≤ 9223372036854775807) : twoN 6 a 0 = a := by rw [two_add, Int.add_zero, wrap_in h0 h1]

set_option maxHeartbeats 4000000 in
theorem ring_law (a b c : Int) (h0 : -9223372036854775808 ≤ a) (h1 : a ≤ 9223372036854775807) (w : World) :
    Calls Try.prog 5 #[.int .i64 a, .int .i64 b, .int .i64 c] w fun e w' => e = .returned (.bool true) ∧ w = w' := by
  have e1 := hide (ring_comm a b)
  have e2 := hide (ring_assoc a b c)
  have e3 := hide (ring_mcomm a b)
  have e4 := hide (ring_massoc a b c)
  have e5 := hide (ring_back a b h0 h1)
  have e6 := hide (ring_dist a b c)
  have e7 := hide (ring_one a h0 h1)
  have e8 := hide (ring_zero a h0 h1)
  have e9 := hide (show twoE 7 b = 0 from rfl)
  go_enter Try.func5, Try.ntmps5
  go_wp2_with (first | (go_at_call 9; refine (lives_calls _).mono ?_; rintro e w' ⟨rfl, rfl⟩) | (go_at_call 10; refine (two_calls _ _ _ _).mono ?_; rintro e w' ⟨rfl, rfl⟩; rw [unhide e9]) | (go_at_call 14; refine (add_calls _ _ _).mono ?_; rintro e w' ⟨rfl, rfl⟩; first | rw [unhide e1] | rw [unhide e2] | rw [unhide e5] | rw [unhide e8] | skip) | (go_at_call 15; refine (mul_calls _ _ _).mono ?_; rintro e w' ⟨rfl, rfl⟩; first | rw [unhide e3] | rw [unhide e4] | rw [unhide e6] | rw [unhide e7] | skip))
  go_ret
  exact ⟨rfl, rfl⟩
end Go.Proofs.Ytcajbdcgjagbbaa
