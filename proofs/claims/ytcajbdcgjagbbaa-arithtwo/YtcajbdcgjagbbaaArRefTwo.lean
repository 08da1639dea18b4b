/-
  The document's Two answers as the program's does; nothing is touched.
-/
import Derived.Test.YtcajbdcgjagbbaaArRef
namespace Go.Proofs.Ytcajbdcgjagbbaa
open Go.RowKit
set_option linter.unusedVariables false

theorem two_err9 (b : Int) (hb : ¬ b = 0) : 0 = twoE 9 b := by unfold twoE; simp [hb]
theorem two_err10 (b : Int) (hb : ¬ b = 0) : 0 = twoE 10 b := by unfold twoE; simp [hb]

theorem quo_u (a b : Int) (h0 : -9223372036854775808 ≤ a) (h1 : a ≤ 9223372036854775807) : IntKind.u64.wrap (((a.natAbs : Nat) : Int) / ((b.natAbs : Nat) : Int)) = ((a.natAbs / b.natAbs : Nat) : Int) := by
  rw [← Int.natCast_ediv, uw]
  have h := Nat.div_le_self a.natAbs b.natAbs
  have ha : a.natAbs ≤ 9223372036854775808 := by omega
  generalize a.natAbs / b.natAbs = q at *
  omega

theorem two_quo_same (a b : Int) (hb : ¬ b = 0) (h0 : -9223372036854775808 ≤ a) (h1 : a ≤ 9223372036854775807) (h : a < 0 ↔ b < 0) : wrap64 (IntKind.u64.wrap (((a.natAbs : Nat) : Int) / ((b.natAbs : Nat) : Int))) = twoN 9 a b := by
  rw [quo_u a b h0 h1, two_div, if_neg hb, quo_same a b (by simp [h])]

theorem two_quo_other (a b : Int) (hb : ¬ b = 0) (h0 : -9223372036854775808 ≤ a) (h1 : a ≤ 9223372036854775807) (h : ¬ (a < 0 ↔ b < 0)) : wrap64 (-IntKind.u64.wrap (((a.natAbs : Nat) : Int) / ((b.natAbs : Nat) : Int))) = twoN 9 a b := by
  rw [quo_u a b h0 h1, two_div, if_neg hb, quo_other a b (by simpa using h)]

theorem two_rem_minus (a b : Int) (hb : ¬ b = 0) (h0 : -9223372036854775808 ≤ a) (h1 : a ≤ 9223372036854775807) (h : a < 0) : wrap64 (-(((a.natAbs : Nat) : Int) % ((b.natAbs : Nat) : Int))) = twoN 10 a b := by
  rw [← Int.natCast_emod, rem_minus a b h, two_rem, if_neg hb, rem_in a b h0 h1]

theorem two_rem_plus (a b : Int) (hb : ¬ b = 0) (h0 : -9223372036854775808 ≤ a) (h1 : a ≤ 9223372036854775807) (h : 0 ≤ a) : wrap64 (((a.natAbs : Nat) : Int) % ((b.natAbs : Nat) : Int)) = twoN 10 a b := by
  rw [← Int.natCast_emod, rem_plus a b (by omega), two_rem, if_neg hb, rem_in a b h0 h1]

set_option maxHeartbeats 4000000 in
theorem rtwo_calls (op a b : Int) (h0 : -9223372036854775808 ≤ a) (h1 : a ≤ 9223372036854775807) (h2 : -9223372036854775808 ≤ b) (h3 : b ≤ 9223372036854775807) (w : World) :
    Calls Try.prog 11 #[.int .i64 op, .int .i64 a, .int .i64 b] w fun e w' => e = .returned (.tuple #[.int .i64 (twoN op a b), .int .i64 (twoE op b)]) ∧ w = w' := by
  by_cases h6 : op = 6
  · subst h6
    go_enter Try.func11, Try.ntmps11
    go_wp2
    go_ret2
    exact ⟨ret_two (by rw [two_add, uw, uw, uw]; unfold wrap64; omega) rfl, rfl⟩
  by_cases h7 : op = 7
  · subst h7
    go_enter Try.func11, Try.ntmps11
    go_wp2
    go_ret2
    exact ⟨ret_two (by rw [two_sub, uw, uw, uw]; unfold wrap64; omega) rfl, rfl⟩
  by_cases h8 : op = 8
  · subst h8
    go_enter Try.func11, Try.ntmps11
    go_wp2_with (go_at_call 20; refine (product_u _ _ _).mono ?_; rintro e w' ⟨rfl, rfl⟩)
    go_ret2
    exact ⟨ret_two (product_signed a b) rfl, rfl⟩
  by_cases h9 : op = 9
  · subst h9
    by_cases hb : b = 0
    · subst hb
      go_enter Try.func11, Try.ntmps11
      go_wp2
      go_ret2
      exact ⟨rfl, rfl⟩
    · have hn : 1 ≤ ((b.natAbs : Nat) : Int) := by omega
      have hm : ((b.natAbs : Nat) : Int) ≤ 9223372036854775808 := by omega
      have ha : ((a.natAbs : Nat) : Int) ≤ 9223372036854775808 := by omega
      go_enter Try.func11, Try.ntmps11
      go_wp2_with (first | (go_at_call 22; refine (size_calls _ (by assumption) (by assumption) _).mono ?_; rintro e w' ⟨rfl, rfl⟩) | (go_at_call 21; refine (signed_calls _ _ (by first | (rw [uw]; omega) | exact Int.emod_nonneg _ (by omega)) (by first | (rw [uw]; omega) | exact Int.le_trans (Int.le_of_lt (Int.emod_lt_of_pos _ (by omega))) (by omega)) _).mono ?_; rintro e w' ⟨rfl, rfl⟩))
      · rename_i h
        go_ret2
        exact ⟨ret_two ((two_quo_same a b hb h0 h1 h)) (two_err9 b hb), rfl⟩
      · rename_i h
        go_ret2
        exact ⟨ret_two ((two_quo_other a b hb h0 h1 h)) (two_err9 b hb), rfl⟩
  by_cases h10 : op = 10
  · subst h10
    by_cases hb : b = 0
    · subst hb
      go_enter Try.func11, Try.ntmps11
      go_wp2
      go_ret2
      exact ⟨rfl, rfl⟩
    · have hn : 1 ≤ ((b.natAbs : Nat) : Int) := by omega
      have hm : ((b.natAbs : Nat) : Int) ≤ 9223372036854775808 := by omega
      have ha : ((a.natAbs : Nat) : Int) ≤ 9223372036854775808 := by omega
      go_enter Try.func11, Try.ntmps11
      go_wp2_with (first | (go_at_call 22; refine (size_calls _ (by assumption) (by assumption) _).mono ?_; rintro e w' ⟨rfl, rfl⟩) | (go_at_call 21; refine (signed_calls _ _ (by first | (rw [uw]; omega) | exact Int.emod_nonneg _ (by omega)) (by first | (rw [uw]; omega) | exact Int.le_trans (Int.le_of_lt (Int.emod_lt_of_pos _ (by omega))) (by omega)) _).mono ?_; rintro e w' ⟨rfl, rfl⟩))
      · rename_i h
        go_ret2
        exact ⟨ret_two (two_rem_minus a b hb h0 h1 h) (two_err10 b hb), rfl⟩
      · rename_i h
        go_ret2
        exact ⟨ret_two (two_rem_plus a b hb h0 h1 h) (two_err10 b hb), rfl⟩
  by_cases h11 : op = 11
  · subst h11
    rw [two_less]
    go_enter Try.func11, Try.ntmps11
    go_wp2_with (go_at_call 23; refine (rtruth_calls _ _).mono ?_; rintro e w' ⟨rfl, rfl⟩)
    go_ret2
    exact ⟨ret_two (by rw [top_turn a h0 h1, top_turn b h2 h3]; congr 1; simp) rfl, rfl⟩
  by_cases h12 : op = 12
  · subst h12
    rw [two_eq]
    go_enter Try.func11, Try.ntmps11
    go_wp2_with (go_at_call 23; refine (rtruth_calls _ _).mono ?_; rintro e w' ⟨rfl, rfl⟩)
    go_ret2
    exact ⟨ret_two (by rw [eq_turn a b h0 h1 h2 h3]) rfl, rfl⟩
  by_cases h14 : op = 14
  · subst h14
    rw [two_and]
    by_cases ha : a = 0
    · subst ha
      go_enter Try.func11, Try.ntmps11
      go_wp2_with (go_at_call 23; refine (rtruth_calls _ _).mono ?_; rintro e w' ⟨rfl, rfl⟩)
      go_ret2
      exact ⟨rfl, rfl⟩
    · have hx := hide (show (a != 0) = true by simp [ha])
      rw [unhide hx, Bool.true_and]
      go_enter Try.func11, Try.ntmps11
      go_wp2_with (go_at_call 23; refine (rtruth_calls _ _).mono ?_; rintro e w' ⟨rfl, rfl⟩; try rw [unhide hx])
      go_ret2
      exact ⟨rfl, rfl⟩
  by_cases h15 : op = 15
  · subst h15
    rw [two_or]
    by_cases ha : a = 0
    · subst ha
      rw [show ((0 : Int) != 0) = false from rfl, Bool.false_or]
      go_enter Try.func11, Try.ntmps11
      go_wp2_with (go_at_call 23; refine (rtruth_calls _ _).mono ?_; rintro e w' ⟨rfl, rfl⟩)
      go_ret2
      exact ⟨rfl, rfl⟩
    · have hx := hide (show (a != 0) = true by simp [ha])
      rw [unhide hx, Bool.true_or]
      go_enter Try.func11, Try.ntmps11
      go_wp2_with (go_at_call 23; refine (rtruth_calls _ _).mono ?_; rintro e w' ⟨rfl, rfl⟩; try rw [unhide hx])
      go_ret2
      exact ⟨rfl, rfl⟩
  have e1 : twoN op a b = 0 := by unfold twoN; simp only [h6, h7, h8, h9, h10, h11, h12, h14, h15, if_false]
  have e2 : twoE op b = 9 := by unfold twoE; simp only [h6, h7, h8, h9, h10, h11, h12, h14, h15, if_false]
  rw [e1, e2]
  clear e1 e2
  go_enter Try.func11, Try.ntmps11
  go_wp2
  go_ret2
  exact ⟨rfl, rfl⟩

set_option maxHeartbeats 1000000 in
theorem two_law (op a b : Int) (h0 : -9223372036854775808 ≤ a) (h1 : a ≤ 9223372036854775807) (h2 : -9223372036854775808 ≤ b) (h3 : b ≤ 9223372036854775807) (w : World) :
    Calls Try.prog 3 #[.int .i64 op, .int .i64 a, .int .i64 b] w fun e w' => e = .returned (.bool true) ∧ w = w' := by
  go_enter Try.func3, Try.ntmps3
  go_wp2_with (first | (go_at_call 9; refine (lives_calls _).mono ?_; rintro e w' ⟨rfl, rfl⟩) | (go_at_call 10; refine (two_calls _ _ _ _).mono ?_; rintro e w' ⟨rfl, rfl⟩) | (go_at_call 11; refine (rtwo_calls _ _ _ (by assumption) (by assumption) (by assumption) (by assumption) _).mono ?_; rintro e w' ⟨rfl, rfl⟩))
  go_ret
  exact ⟨rfl, rfl⟩

set_option maxHeartbeats 1000000 in
theorem one_law (op a : Int) (w : World) :
    Calls Try.prog 4 #[.int .i64 op, .int .i64 a] w fun e w' => e = .returned (.bool true) ∧ w = w' := by
  go_enter Try.func4, Try.ntmps4
  go_wp2_with (first | (go_at_call 9; refine (lives_calls _).mono ?_; rintro e w' ⟨rfl, rfl⟩) | (go_at_call 12; refine (one_calls _ _ _).mono ?_; rintro e w' ⟨rfl, rfl⟩) | (go_at_call 13; refine (rone_calls _ _ _).mono ?_; rintro e w' ⟨rfl, rfl⟩))
  go_ret
  exact ⟨rfl, rfl⟩
end Go.Proofs.Ytcajbdcgjagbbaa
