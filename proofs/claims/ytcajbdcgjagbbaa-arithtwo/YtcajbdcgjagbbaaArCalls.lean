/-
  Package arith: Truth, isTrue, divide, Two, One answer as the plain functions say; nothing is touched.
-/
import Derived.Test.YtcajbdcgjagbbaaChecked
import Derived.Test.YtcajbdcgjagbbaaKit
import Derived.WalkKit
import Derived.WalkLawsBesides
import Derived.IntWalk
namespace Go.Proofs.Ytcajbdcgjagbbaa
open Go.RowKit
set_option linter.unusedVariables false

def tt (b : Bool) : Int := if b then 1 else 0

theorem tt_01 (b : Bool) : 0 ≤ tt b ∧ tt b ≤ 1 := by cases b <;> decide

/-- What Two tells of two numbers. -/
def twoN (op a b : Int) : Int :=
  if op = 6 then wrap64 (a + b) else if op = 7 then wrap64 (a - b) else if op = 8 then wrap64 (a * b)
  else if op = 9 then (if b = 0 then 0 else wrap64 (a.tdiv b)) else if op = 10 then (if b = 0 then 0 else a.tmod b)
  else if op = 11 then tt (decide (a < b)) else if op = 12 then tt (a == b) else if op = 14 then tt (a != 0 && b != 0) else if op = 15 then tt (a != 0 || b != 0) else 0

/-- And which error. -/
def twoE (op b : Int) : Int :=
  if op = 6 then 0 else if op = 7 then 0 else if op = 8 then 0 else if op = 9 then (if b = 0 then 15 else 0) else if op = 10 then (if b = 0 then 15 else 0)
  else if op = 11 then 0 else if op = 12 then 0 else if op = 14 then 0 else if op = 15 then 0 else 9

/-- What One tells. -/
def oneN (op a : Int) : Int := if op = 13 then tt (!(a != 0)) else 0
def oneE (op : Int) : Int := if op = 13 then 0 else 9

set_option maxHeartbeats 400000 in
theorem truth_calls (b : Bool) (w : World) : Calls Try.prog 17 #[.bool b] w fun e w' => e = .returned (.int .i64 (tt b)) ∧ w = w' := by
  cases b
  · go_enter Try.func17, Try.ntmps17
    go_wp2
    go_ret
    exact ⟨rfl, rfl⟩
  · go_enter Try.func17, Try.ntmps17
    go_wp2
    go_ret
    exact ⟨rfl, rfl⟩

set_option maxHeartbeats 400000 in
theorem isTrue_calls (a : Int) (w : World) : Calls Try.prog 19 #[.int .i64 a] w fun e w' => e = .returned (.bool (a != 0)) ∧ w = w' := by
  go_enter Try.func19, Try.ntmps19
  go_wp2
  go_ret
  exact ⟨rfl, rfl⟩

set_option maxHeartbeats 400000 in
theorem divide_none (op a : Int) (w : World) : Calls Try.prog 18 #[.int .i64 op, .int .i64 a, .int .i64 0] w fun e w' => e = .returned (.tuple #[.int .i64 0, .int .i64 15]) ∧ w = w' := by
  go_enter Try.func18, Try.ntmps18
  go_wp2
  go_ret2
  exact ⟨rfl, rfl⟩

set_option maxHeartbeats 400000 in
theorem divide_some (op a b : Int) (hb : ¬ b = 0) (w : World) : Calls Try.prog 18 #[.int .i64 op, .int .i64 a, .int .i64 b] w fun e w' => e = .returned (.tuple #[.int .i64 (if op = 9 then wrap64 (a.tdiv b) else a.tmod b), .int .i64 0]) ∧ w = w' := by
  by_cases h : op = 9
  · rw [if_pos h]
    subst h
    go_enter Try.func18, Try.ntmps18
    go_wp2
    go_ret2
    exact ⟨rfl, rfl⟩
  · rw [if_neg h]
    go_enter Try.func18, Try.ntmps18
    go_wp2
    go_ret2
    exact ⟨rfl, rfl⟩

theorem two_add (a b : Int) : twoN 6 a b = wrap64 (a + b) := rfl
theorem two_sub (a b : Int) : twoN 7 a b = wrap64 (a - b) := rfl
theorem two_mul (a b : Int) : twoN 8 a b = wrap64 (a * b) := rfl
theorem two_div (a b : Int) : twoN 9 a b = if b = 0 then 0 else wrap64 (a.tdiv b) := rfl
theorem two_rem (a b : Int) : twoN 10 a b = if b = 0 then 0 else a.tmod b := rfl
theorem two_less (a b : Int) : twoN 11 a b = tt (decide (a < b)) := rfl
theorem two_eq (a b : Int) : twoN 12 a b = tt (a == b) := rfl
theorem two_and (a b : Int) : twoN 14 a b = tt (a != 0 && b != 0) := rfl
theorem two_or (a b : Int) : twoN 15 a b = tt (a != 0 || b != 0) := rfl

set_option maxHeartbeats 2000000 in
theorem two_calls (op a b : Int) (w : World) : Calls Try.prog 10 #[.int .i64 op, .int .i64 a, .int .i64 b] w fun e w' => e = .returned (.tuple #[.int .i64 (twoN op a b), .int .i64 (twoE op b)]) ∧ w = w' := by
  by_cases h6 : op = 6
  · subst h6
    go_enter Try.func10, Try.ntmps10
    go_wp2
    go_ret2
    exact ⟨rfl, rfl⟩
  by_cases h7 : op = 7
  · subst h7
    go_enter Try.func10, Try.ntmps10
    go_wp2
    go_ret2
    exact ⟨rfl, rfl⟩
  by_cases h8 : op = 8
  · subst h8
    go_enter Try.func10, Try.ntmps10
    go_wp2
    go_ret2
    exact ⟨rfl, rfl⟩
  by_cases h9 : op = 9
  · subst h9
    by_cases hb : b = 0
    · subst hb
      go_enter Try.func10, Try.ntmps10
      go_wp2_with (go_at_call 18; refine (divide_none _ _ _).mono ?_; rintro e w' ⟨rfl, rfl⟩)
      go_ret2
      exact ⟨rfl, rfl⟩
    · have e1 : twoN 9 a b = wrap64 (a.tdiv b) := by rw [two_div, if_neg hb]
      have e2 : twoE 9 b = 0 := by unfold twoE; simp [hb]
      rw [e1, e2]
      have hd := hide (if_pos rfl : (if (9 : Int) = 9 then wrap64 (a.tdiv b) else a.tmod b) = wrap64 (a.tdiv b))
      clear e1 e2
      go_enter Try.func10, Try.ntmps10
      go_wp2_with (go_at_call 18; refine (divide_some _ _ _ hb _).mono ?_; rintro e w' ⟨rfl, rfl⟩; rw [unhide hd])
      go_ret2
      exact ⟨rfl, rfl⟩
  by_cases h10 : op = 10
  · subst h10
    by_cases hb : b = 0
    · subst hb
      go_enter Try.func10, Try.ntmps10
      go_wp2_with (go_at_call 18; refine (divide_none _ _ _).mono ?_; rintro e w' ⟨rfl, rfl⟩)
      go_ret2
      exact ⟨rfl, rfl⟩
    · have e1 : twoN 10 a b = a.tmod b := by rw [two_rem, if_neg hb]
      have e2 : twoE 10 b = 0 := by unfold twoE; simp [hb]
      rw [e1, e2]
      have hd := hide (if_neg (by decide) : (if (10 : Int) = 9 then wrap64 (a.tdiv b) else a.tmod b) = a.tmod b)
      clear e1 e2
      go_enter Try.func10, Try.ntmps10
      go_wp2_with (go_at_call 18; refine (divide_some _ _ _ hb _).mono ?_; rintro e w' ⟨rfl, rfl⟩; rw [unhide hd])
      go_ret2
      exact ⟨rfl, rfl⟩
  by_cases h11 : op = 11
  · subst h11
    rw [two_less]
    go_enter Try.func10, Try.ntmps10
    go_wp2_with (go_at_call 17; refine (truth_calls _ _).mono ?_; rintro e w' ⟨rfl, rfl⟩)
    go_ret2
    exact ⟨rfl, rfl⟩
  by_cases h12 : op = 12
  · subst h12
    rw [two_eq]
    go_enter Try.func10, Try.ntmps10
    go_wp2_with (go_at_call 17; refine (truth_calls _ _).mono ?_; rintro e w' ⟨rfl, rfl⟩)
    go_ret2
    exact ⟨rfl, rfl⟩
  by_cases h14 : op = 14
  · subst h14
    rw [two_and]
    by_cases ha : a = 0
    · subst ha
      go_enter Try.func10, Try.ntmps10
      go_wp2_with (first | (go_at_call 17; refine (truth_calls _ _).mono ?_; rintro e w' ⟨rfl, rfl⟩) | (go_at_call 19; refine (isTrue_calls _ _).mono ?_; rintro e w' ⟨rfl, rfl⟩))
      go_ret2
      exact ⟨rfl, rfl⟩
    · have hx := hide (show (a != 0) = true by simp [ha])
      rw [unhide hx, Bool.true_and]
      go_enter Try.func10, Try.ntmps10
      go_wp2_with (first | (go_at_call 17; refine (truth_calls _ _).mono ?_; rintro e w' ⟨rfl, rfl⟩) | (go_at_call 19; refine (isTrue_calls _ _).mono ?_; rintro e w' ⟨rfl, rfl⟩; try rw [unhide hx]))
      go_ret2
      exact ⟨rfl, rfl⟩
  by_cases h15 : op = 15
  · subst h15
    rw [two_or]
    by_cases ha : a = 0
    · subst ha
      rw [show ((0 : Int) != 0) = false from rfl, Bool.false_or]
      go_enter Try.func10, Try.ntmps10
      go_wp2_with (first | (go_at_call 17; refine (truth_calls _ _).mono ?_; rintro e w' ⟨rfl, rfl⟩) | (go_at_call 19; refine (isTrue_calls _ _).mono ?_; rintro e w' ⟨rfl, rfl⟩))
      go_ret2
      exact ⟨rfl, rfl⟩
    · have hx := hide (show (a != 0) = true by simp [ha])
      rw [unhide hx, Bool.true_or]
      go_enter Try.func10, Try.ntmps10
      go_wp2_with (first | (go_at_call 17; refine (truth_calls _ _).mono ?_; rintro e w' ⟨rfl, rfl⟩) | (go_at_call 19; refine (isTrue_calls _ _).mono ?_; rintro e w' ⟨rfl, rfl⟩; try rw [unhide hx]))
      go_ret2
      exact ⟨rfl, rfl⟩
  have e1 : twoN op a b = 0 := by unfold twoN; simp only [h6, h7, h8, h9, h10, h11, h12, h14, h15, if_false]
  have e2 : twoE op b = 9 := by unfold twoE; simp only [h6, h7, h8, h9, h10, h11, h12, h14, h15, if_false]
  rw [e1, e2]
  clear e1 e2
  go_enter Try.func10, Try.ntmps10
  go_wp2
  go_ret2
  exact ⟨rfl, rfl⟩

set_option maxHeartbeats 400000 in
theorem one_calls (op a : Int) (w : World) : Calls Try.prog 12 #[.int .i64 op, .int .i64 a] w fun e w' => e = .returned (.tuple #[.int .i64 (oneN op a), .int .i64 (oneE op)]) ∧ w = w' := by
  by_cases h : op = 13
  · subst h
    rw [show oneN 13 a = tt (!(a != 0)) from rfl, show oneE 13 = 0 from rfl]
    go_enter Try.func12, Try.ntmps12
    go_wp2_with (first | (go_at_call 17; refine (truth_calls _ _).mono ?_; rintro e w' ⟨rfl, rfl⟩) | (go_at_call 19; refine (isTrue_calls _ _).mono ?_; rintro e w' ⟨rfl, rfl⟩))
    go_ret2
    exact ⟨rfl, rfl⟩
  · rw [show oneN op a = 0 from if_neg h, show oneE op = 9 from if_neg h]
    go_enter Try.func12, Try.ntmps12
    go_wp2
    go_ret2
    exact ⟨rfl, rfl⟩

theorem l1 : twoN 9 (-7) 2 = -3 := by decide +kernel
theorem l2 : twoN 10 (-7) 2 = -1 := by decide +kernel

set_option maxHeartbeats 1000000 in
theorem lives_calls (w : World) : Calls Try.prog 9 #[] w fun e w' => e = .returned (.bool true) ∧ w = w' := by
  go_enter Try.func9, Try.ntmps9
  go_wp2_with (first | (go_at_call 17; refine (truth_calls _ _).mono ?_; rintro e w' ⟨rfl, rfl⟩; rw [show tt true = 1 from rfl]) | (go_at_call 10; refine (two_calls _ _ _ _).mono ?_; rintro e w' ⟨rfl, rfl⟩; first | rw [l1, show twoE 9 2 = 0 from rfl] | rw [l2, show twoE 10 2 = 0 from rfl]))
  go_ret
  exact ⟨rfl, rfl⟩

set_option maxHeartbeats 400000 in
theorem add_calls (a b : Int) (w : World) : Calls Try.prog 14 #[.int .i64 a, .int .i64 b] w fun e w' => e = .returned (.int .i64 (twoN 6 a b)) ∧ w = w' := by
  go_enter Try.func14, Try.ntmps14
  go_wp2_with (go_at_call 10; refine (two_calls _ _ _ _).mono ?_; rintro e w' ⟨rfl, rfl⟩)
  go_ret
  exact ⟨rfl, rfl⟩

set_option maxHeartbeats 400000 in
theorem mul_calls (a b : Int) (w : World) : Calls Try.prog 15 #[.int .i64 a, .int .i64 b] w fun e w' => e = .returned (.int .i64 (twoN 8 a b)) ∧ w = w' := by
  go_enter Try.func15, Try.ntmps15
  go_wp2_with (go_at_call 10; refine (two_calls _ _ _ _).mono ?_; rintro e w' ⟨rfl, rfl⟩)
  go_ret
  exact ⟨rfl, rfl⟩

set_option maxHeartbeats 400000 in
theorem less_calls (a b : Int) (w : World) : Calls Try.prog 16 #[.int .i64 a, .int .i64 b] w fun e w' => e = .returned (.int .i64 (twoN 11 a b)) ∧ w = w' := by
  go_enter Try.func16, Try.ntmps16
  go_wp2_with (go_at_call 10; refine (two_calls _ _ _ _).mono ?_; rintro e w' ⟨rfl, rfl⟩)
  go_ret
  exact ⟨rfl, rfl⟩
end Go.Proofs.Ytcajbdcgjagbbaa
