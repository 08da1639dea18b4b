/-
  The document's answers of layer 3: size, signed, product, Truth, Two, One; nothing is touched.
-/
import Derived.Test.YtcajbdcgjagbbaaArRefPure
namespace Go.Proofs.Ytcajbdcgjagbbaa
open Go.RowKit
set_option linter.unusedVariables false

set_option maxHeartbeats 400000 in
theorem rtruth_calls (b : Bool) (w : World) : Calls Try.prog 23 #[.bool b] w fun e w' => e = .returned (.int .i64 (tt b)) ∧ w = w' := by
  cases b
  · go_enter Try.func23, Try.ntmps23
    go_wp2
    go_ret
    exact ⟨rfl, rfl⟩
  · go_enter Try.func23, Try.ntmps23
    go_wp2
    go_ret
    exact ⟨rfl, rfl⟩

set_option maxHeartbeats 400000 in
theorem size_calls (a : Int) (h0 : -9223372036854775808 ≤ a) (h1 : a ≤ 9223372036854775807) (w : World) : Calls Try.prog 22 #[.int .i64 a] w fun e w' => e = .returned (.int .u64 (a.natAbs : Nat)) ∧ w = w' := by
  by_cases h : a < 0
  · have e : ((a.natAbs : Nat) : Int) = -(a + 1) + 1 := by omega
    rw [e]
    clear e
    go_enter Try.func22, Try.ntmps22
    go_wp2
    go_ret
    exact ⟨rfl, rfl⟩
  · have e : ((a.natAbs : Nat) : Int) = a := by omega
    rw [e]
    clear e
    go_enter Try.func22, Try.ntmps22
    go_wp2
    go_ret
    exact ⟨rfl, rfl⟩

set_option maxHeartbeats 400000 in
theorem signed_plus (n : Int) (h0 : 0 ≤ n) (h1 : n ≤ 18446744073709551615) (w : World) : Calls Try.prog 21 #[.int .u64 n, .bool false] w fun e w' => e = .returned (.int .i64 (wrap64 n)) ∧ w = w' := by
  go_enter Try.func21, Try.ntmps21
  go_wp2
  go_ret
  exact ⟨rfl, rfl⟩

set_option maxHeartbeats 400000 in
theorem signed_minus (n : Int) (h0 : 0 ≤ n) (h1 : n ≤ 18446744073709551615) (w : World) : Calls Try.prog 21 #[.int .u64 n, .bool true] w fun e w' => e = .returned (.int .i64 (wrap64 (-n))) ∧ w = w' := by
  rw [← minus_turn n h0 h1]
  go_enter Try.func21, Try.ntmps21
  go_wp2
  go_ret
  exact ⟨rfl, rfl⟩

theorem dig (b j : Nat) : ((b : Int) / 2 ^ j).tmod 2 = ((b / 2 ^ j % 2 : Nat) : Int) := by
  rw [show (2 : Int) ^ j = ((2 ^ j : Nat) : Int) from by rw [Int.natCast_pow]; rfl, ← Int.natCast_ediv]
  rfl

set_option maxHeartbeats 4000000 in
theorem product_calls (a b : Nat) (ha : a < 18446744073709551616) (hb : b < 18446744073709551616) (w : World) : Calls Try.prog 20 #[.int .u64 (a : Int), .int .u64 (b : Int)] w fun e w' => e = .returned (.int .u64 (a * b % 18446744073709551616 : Nat)) ∧ w = w' := by
  go_enter Try.func20, Try.ntmps20
  go_wp2_with fail
  go_loop [5, 6] (fun n i => ∃ (j : Nat), i = .int .i64 (j : Int) ∧ j ≤ 64 ∧ n = .int .u64 (a * (b % 2 ^ j) % 18446744073709551616 : Nat)) (fun _ i => (64 - intOf i).toNat)
  case atStart => exact ⟨0, rfl, by omega, by simp [Nat.mod_one]⟩
  case round =>
    obtain ⟨j, rfl, hj, rfl⟩ := hrel
    by_cases h : j < 64
    · go_wp2
      · rename_i hd
        rw [dig, beq_iff_eq] at hd
        refine ⟨⟨j + 1, rfl, by omega, ?_⟩, by simp [intOf]; omega⟩
        rw [digit_step a b j (by omega)]
      · rename_i hd
        rw [dig, beq_eq_false_iff_ne] at hd
        refine ⟨⟨j + 1, rfl, by omega, ?_⟩, by simp [intOf]; omega⟩
        rw [digit_none a b j (by omega)]
    · obtain rfl : j = 64 := by omega
      have e : b % 2 ^ 64 = b := Nat.mod_eq_of_lt hb
      rw [e]
      go_wp2
      go_ret
      exact ⟨rfl, rfl⟩

theorem u_nat (a : Int) : IntKind.u64.wrap a = (((IntKind.u64.wrap a).toNat : Nat) : Int) := by rw [uw]; omega
theorem u_lt (a : Int) : (IntKind.u64.wrap a).toNat < 18446744073709551616 := by rw [uw]; omega

/-- A product without signs. -/
def prodU (a b : Int) : Int := ((IntKind.u64.wrap a).toNat * (IntKind.u64.wrap b).toNat % 18446744073709551616 : Nat)

theorem product_u (a b : Int) (w : World) : Calls Try.prog 20 #[.int .u64 (IntKind.u64.wrap a), .int .u64 (IntKind.u64.wrap b)] w fun e w' => e = .returned (.int .u64 (prodU a b)) ∧ w = w' := by
  have := product_calls (IntKind.u64.wrap a).toNat (IntKind.u64.wrap b).toNat (u_lt a) (u_lt b) w
  rw [← u_nat a, ← u_nat b] at this
  exact this

theorem ret_two {x y x' y' : Int} (h : x = x') (k : y = y') : Ending.returned (.tuple #[.int .i64 x, .int .i64 y]) = .returned (.tuple #[.int .i64 x', .int .i64 y']) := by rw [h, k]

theorem signed_calls (n : Int) (m : Bool) (h0 : 0 ≤ n) (h1 : n ≤ 18446744073709551615) (w : World) : Calls Try.prog 21 #[.int .u64 n, .bool m] w fun e w' => e = .returned (.int .i64 (wrap64 (if m then -n else n))) ∧ w = w' := by
  cases m
  · exact signed_plus n h0 h1 w
  · exact signed_minus n h0 h1 w

set_option maxHeartbeats 400000 in
theorem rone_calls (op a : Int) (w : World) : Calls Try.prog 13 #[.int .i64 op, .int .i64 a] w fun e w' => e = .returned (.tuple #[.int .i64 (oneN op a), .int .i64 (oneE op)]) ∧ w = w' := by
  by_cases h : op = 13
  · subst h
    rw [show oneN 13 a = tt (a == 0) from by unfold oneN; simp [bne], show oneE 13 = 0 from rfl]
    go_enter Try.func13, Try.ntmps13
    go_wp2_with (go_at_call 23; refine (rtruth_calls _ _).mono ?_; rintro e w' ⟨rfl, rfl⟩)
    go_ret2
    exact ⟨rfl, rfl⟩
  · rw [show oneN op a = 0 from if_neg h, show oneE op = 9 from if_neg h]
    go_enter Try.func13, Try.ntmps13
    go_wp2
    go_ret2
    exact ⟨rfl, rfl⟩
end Go.Proofs.Ytcajbdcgjagbbaa
