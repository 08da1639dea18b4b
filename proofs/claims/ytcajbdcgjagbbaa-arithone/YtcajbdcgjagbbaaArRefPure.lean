/-
  Numbers of 64 bits: without a sign, with the top bit turned, all bits turned; products digit by digit. Plain.
-/
import Derived.Test.YtcajbdcgjagbbaaArRing
import Derived.Laws.BitsAllLaws
namespace Go.Proofs.Ytcajbdcgjagbbaa
open Go.RowKit
set_option linter.unusedVariables false

theorem uw (n : Int) : IntKind.u64.wrap n = n % 18446744073709551616 := by simp [IntKind.wrap, IntKind.bits, IntKind.signed]

theorem not_nat (n : Nat) (h : n < 18446744073709551616) : 18446744073709551615 ^^^ n = 18446744073709551615 - n := by
  apply Nat.eq_of_testBit_eq
  intro i
  have e : 18446744073709551615 - n = 2 ^ 64 - (n + 1) := by omega
  rw [e, Nat.testBit_two_pow_sub_succ (by omega), Nat.testBit_xor, show 18446744073709551615 = 2 ^ 64 - 1 from rfl, Nat.testBit_two_pow_sub_one]
  by_cases hi : i < 64
  · simp [hi]
  · have : n.testBit i = false := Nat.testBit_lt_two_pow (Nat.lt_of_lt_of_le h (show 2 ^ 64 ≤ 2 ^ i from Nat.pow_le_pow_right (by omega) (by omega)))
    simp [hi, this]

theorem top_low (x : Nat) (h : x < 9223372036854775808) : x ^^^ 9223372036854775808 = x + 9223372036854775808 := by
  have e : x + 9223372036854775808 = 2 ^ 63 ||| x := by
    have k := Nat.two_pow_add_eq_or_of_lt (show x < 2 ^ 63 from h) 1
    rw [Nat.mul_one] at k
    rw [← k]
    omega
  rw [e]
  apply Nat.eq_of_testBit_eq
  intro i
  rw [Nat.testBit_xor, Nat.testBit_or, show 9223372036854775808 = 2 ^ 63 from rfl, Nat.testBit_two_pow]
  by_cases hi : 63 = i
  · subst hi
    simp [Nat.testBit_lt_two_pow (show x < 2 ^ 63 from h)]
  · simp [hi]

theorem top_high (x : Nat) (h : x < 9223372036854775808) : (x + 9223372036854775808) ^^^ 9223372036854775808 = x := by
  rw [← top_low x h, Nat.xor_assoc, Nat.xor_self, Nat.xor_zero]

/-- A number with a sign, its top bit turned: moved up by 2^63. -/
theorem top_turn (a : Int) (h0 : -9223372036854775808 ≤ a) (h1 : a ≤ 9223372036854775807) : bits .xor .u64 (IntKind.u64.wrap a) 9223372036854775808 = a + 9223372036854775808 := by
  rw [uw, u64_xor _ _ (by omega) (by omega) (by omega) (by omega)]
  by_cases h : 0 ≤ a
  · have e : (a % 18446744073709551616).toNat = a.toNat := by omega
    rw [e, show (9223372036854775808 : Int).toNat = 9223372036854775808 from rfl, top_low _ (by omega)]
    omega
  · have e : (a % 18446744073709551616).toNat = (a + 9223372036854775808).toNat + 9223372036854775808 := by omega
    rw [e, show (9223372036854775808 : Int).toNat = 9223372036854775808 from rfl, top_high _ (by omega)]
    omega

theorem eq_turn (a b : Int) (h0 : -9223372036854775808 ≤ a) (h1 : a ≤ 9223372036854775807) (h2 : -9223372036854775808 ≤ b) (h3 : b ≤ 9223372036854775807) :
    (bits .xor .u64 (IntKind.u64.wrap a) (IntKind.u64.wrap b) == 0) = (a == b) := by
  rw [uw, uw, u64_xor _ _ (by omega) (by omega) (by omega) (by omega)]
  by_cases h : a = b
  · subst h
    simp
  · have : ¬ (a % 18446744073709551616).toNat ^^^ (b % 18446744073709551616).toNat = 0 := by
      intro k
      have k2 : ((a % 18446744073709551616).toNat ^^^ (b % 18446744073709551616).toNat) ^^^ (b % 18446744073709551616).toNat = (b % 18446744073709551616).toNat := by rw [k, Nat.zero_xor]
      rw [Nat.xor_assoc, Nat.xor_self, Nat.xor_zero] at k2
      omega
    simp only [beq_eq_false_iff_ne.2 h, beq_eq_false_iff_ne]
    omega

theorem minus_turn (n : Int) (h0 : 0 ≤ n) (h1 : n ≤ 18446744073709551615) : wrap64 (IntKind.u64.wrap (bits .xor .u64 IntKind.u64.max n + 1)) = wrap64 (-n) := by
  rw [show IntKind.u64.max = 18446744073709551615 from by decide, u64_xor _ _ (by omega) (by omega) (by omega) (by omega), show (18446744073709551615 : Int).toNat = 18446744073709551615 from rfl, not_nat _ (by omega), uw]
  unfold wrap64
  omega

/-- One digit more. -/
theorem digit_one (a b j : Nat) (h : b / 2 ^ j % 2 = 1) : (a * (b % 2 ^ j) % 18446744073709551616 + a * 2 ^ j % 18446744073709551616) % 18446744073709551616 = a * (b % 2 ^ (j + 1)) % 18446744073709551616 := by
  rw [Nat.pow_succ, Nat.mod_mul, h, Nat.mul_one, Nat.mul_add, Nat.add_mod (a * (b % 2 ^ j))]
theorem digit_none (a b j : Nat) (h : b / 2 ^ j % 2 = 0) : a * (b % 2 ^ (j + 1)) = a * (b % 2 ^ j) := by
  rw [Nat.pow_succ, Nat.mod_mul, h, Nat.mul_zero, Nat.add_zero]

theorem digit_step (a b j : Nat) (h : b / 2 ^ j % 2 = 1) :
    IntKind.u64.wrap ((a : Int) * ((b : Int) % 2 ^ j) % 18446744073709551616 + IntKind.u64.wrap ((a : Int) * 2 ^ j)) = ((a * (b % 2 ^ (j + 1)) % 18446744073709551616 : Nat) : Int) := by
  rw [← digit_one a b j h, uw, uw, Int.natCast_emod, Int.natCast_add, Int.natCast_emod, Int.natCast_emod, Int.natCast_mul, Int.natCast_mul, Int.natCast_emod, Int.natCast_pow]
  rfl

/-- Products: without a sign, then with one. -/
theorem product_signed (a b : Int) : wrap64 (((IntKind.u64.wrap a).toNat * (IntKind.u64.wrap b).toNat % 18446744073709551616 : Nat) : Int) = wrap64 (a * b) := by
  have ea : (((IntKind.u64.wrap a).toNat : Nat) : Int) = a % 18446744073709551616 := by rw [uw]; omega
  have eb : (((IntKind.u64.wrap b).toNat : Nat) : Int) = b % 18446744073709551616 := by rw [uw]; omega
  have e2 : ((18446744073709551616 : Nat) : Int) = 18446744073709551616 := rfl
  rw [Int.natCast_emod, Int.natCast_mul, ea, eb, e2, ← Int.mul_emod]
  unfold wrap64
  omega

theorem tdiv_nat (m n : Nat) : ((m : Int).tdiv (n : Int)) = ((m / n : Nat) : Int) := rfl
theorem tmod_nat (m n : Nat) : ((m : Int).tmod (n : Int)) = ((m % n : Nat) : Int) := rfl

/-- A quotient by sizes and signs. -/
theorem quo_same (a b : Int) (h : decide (a < 0) = decide (b < 0)) : ((a.natAbs / b.natAbs : Nat) : Int) = a.tdiv b := by
  by_cases ha : a < 0
  · have hb : b < 0 := by simpa [ha] using h.symm
    have e1 : a = -((a.natAbs : Nat) : Int) := by omega
    have e2 : b = -((b.natAbs : Nat) : Int) := by omega
    conv => rhs; rw [e1, e2]
    rw [Int.neg_tdiv, Int.tdiv_neg, Int.neg_neg, tdiv_nat]
  · have hb : ¬ b < 0 := by simpa [ha] using h.symm
    have e1 : a = ((a.natAbs : Nat) : Int) := by omega
    have e2 : b = ((b.natAbs : Nat) : Int) := by omega
    conv => rhs; rw [e1, e2]
    rw [tdiv_nat]

theorem quo_other (a b : Int) (h : ¬ decide (a < 0) = decide (b < 0)) : -((a.natAbs / b.natAbs : Nat) : Int) = a.tdiv b := by
  by_cases ha : a < 0
  · have hb : ¬ b < 0 := fun hb => h (by simp [ha, hb])
    have e1 : a = -((a.natAbs : Nat) : Int) := by omega
    have e2 : b = ((b.natAbs : Nat) : Int) := by omega
    conv => rhs; rw [e1, e2]
    rw [Int.neg_tdiv, tdiv_nat]
  · have hb : b < 0 := Classical.byContradiction fun hb => h (by simp [ha, hb])
    have e1 : a = ((a.natAbs : Nat) : Int) := by omega
    have e2 : b = -((b.natAbs : Nat) : Int) := by omega
    conv => rhs; rw [e1, e2]
    rw [Int.tdiv_neg, tdiv_nat]

theorem rem_abs (a b : Int) : a.tmod b = a.tmod ((b.natAbs : Nat) : Int) := by
  by_cases hb : b < 0
  · have e2 : b = -((b.natAbs : Nat) : Int) := by omega
    conv => lhs; rw [e2]
    rw [Int.tmod_neg]
  · have e2 : b = ((b.natAbs : Nat) : Int) := by omega
    conv => lhs; rw [e2]

theorem rem_plus (a b : Int) (h : ¬ a < 0) : ((a.natAbs % b.natAbs : Nat) : Int) = a.tmod b := by
  have e1 : a = ((a.natAbs : Nat) : Int) := by omega
  rw [rem_abs a b]
  conv => rhs; rw [e1]
  rw [tmod_nat]

theorem rem_minus (a b : Int) (h : a < 0) : -((a.natAbs % b.natAbs : Nat) : Int) = a.tmod b := by
  have e1 : a = -((a.natAbs : Nat) : Int) := by omega
  rw [rem_abs a b]
  conv => rhs; rw [e1]
  rw [Int.neg_tmod, tmod_nat]

theorem rem_in (a b : Int) (h0 : -9223372036854775808 ≤ a) (h1 : a ≤ 9223372036854775807) : wrap64 (a.tmod b) = a.tmod b := by
  by_cases h : a < 0
  · have := rem_minus a b h
    have := Nat.mod_le a.natAbs b.natAbs
    exact wrap_in (by omega) (by omega)
  · have := rem_plus a b h
    have := Nat.mod_le a.natAbs b.natAbs
    exact wrap_in (by omega) (by omega)
end Go.Proofs.Ytcajbdcgjagbbaa
