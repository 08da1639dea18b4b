/-
  Numbers there and back: what rd reads is what uvarint writes. Of no call.
-/
import Derived.Test.YthdpgachdegcgaaRdCalls
namespace Go.Proofs.Ythdpgachdegcgaa
set_option linter.unusedVariables false

theorem toUInt8_of (b : UInt8) (n : Nat) (h : n = b.toNat) : n.toUInt8 = b := by
  subst h
  simp

/-- what is read is written just so -/
theorem rd_canon : ∀ (l : List UInt8) (i m n sz : Nat), rd l i m = (n, sz, 0) → ∃ x, n = m + x * 2 ^ (7 * i) ∧ l = Lib.uvarint x ++ l.drop (sz - i) ∧ i < sz ∧ sz ≤ i + l.length ∧ (i > 0 → x ≠ 0)
  | [], i, m, n, sz, h => by simp [rd] at h
  | b :: r, i, m, n, sz, h => by
    rw [rd] at h
    split at h
    · simp at h
    · split at h
      · rename_i h1 h2
        obtain ⟨x, hn, hl, hs, hz, hx⟩ := rd_canon r (i + 1) _ n sz h
        have hx0 := hx (by omega)
        have hb := b.toNat_lt
        refine ⟨b.toNat % 128 + 128 * x, ?_, ?_, by omega, by simp only [List.length_cons]; omega, by omega⟩
        · rw [hn, show 7 * (i + 1) = 7 * i + 7 by omega, Nat.pow_add]
          generalize 2 ^ (7 * i) = p
          rw [Nat.add_mul, show (2 : Nat) ^ 7 = 128 by decide, Nat.add_assoc]
          congr 1
          congr 1
          rw [Nat.mul_comm p 128, ← Nat.mul_assoc, Nat.mul_comm x 128]
        · rw [Lib.uvarint_big (by omega)]
          have e1 : (b.toNat % 128 + 128 * x) % 128 + 128 = b.toNat := by omega
          have e2 : (b.toNat % 128 + 128 * x) / 128 = x := by omega
          rw [e1, e2, toUInt8_of b _ rfl, List.cons_append]
          congr 1
          rw [show sz - i = (sz - (i + 1)) + 1 by omega, List.drop_succ_cons]
          exact hl
      · split at h
        · simp at h
        · rename_i h1 h2 h3
          simp only [Prod.mk.injEq] at h
          obtain ⟨rfl, rfl, _⟩ := h
          refine ⟨b.toNat, ?_, ?_, by omega, by simp only [List.length_cons]; omega, by omega⟩
          · rw [Nat.mod_eq_of_lt (by omega)]
          · rw [Lib.uvarint_small (by omega), toUInt8_of b _ rfl]
            simp

/-- what is written is read again -/
theorem rd_uvarint : ∀ (k x i m : Nat) (r : List UInt8), x ≤ k → i ≤ 9 → m < 2 ^ (7 * i) → m + x * 2 ^ (7 * i) < 18446744073709551616 → (i > 0 → x ≠ 0) →
    rd (Lib.uvarint x ++ r) i m = (m + x * 2 ^ (7 * i), i + (Lib.uvarint x).length, 0) := by
  intro k
  induction k with
  | zero =>
    intro x i m r hk hi hm hlt hx
    obtain rfl : x = 0 := by omega
    have hi0 : i = 0 := by
      by_cases h : i > 0
      · exact absurd rfl (hx h)
      · omega
    subst hi0
    rw [Lib.uvarint_small (by omega)]
    rw [show Nat.toUInt8 0 = 0 from rfl, List.cons_append, rd]
    simp
  | succ k ih =>
    intro x i m r hk hi hm hlt hx
    by_cases h : x < 128
    · rw [Lib.uvarint_small h, List.cons_append, rd]
      have e : (x.toUInt8).toNat = x := by simp; omega
      rw [e]
      have h9 : ¬ (i = 9 ∧ x > 1) := by
        rintro ⟨rfl, h2⟩
        have : 2 * 2 ^ (7 * 9) ≤ x * 2 ^ (7 * 9) := Nat.mul_le_mul_right _ h2
        omega
      rw [if_neg h9, if_neg (by omega), if_neg (by omega), Nat.mod_eq_of_lt h]
      simp
    · rw [Lib.uvarint_big (by omega), List.cons_append, rd]
      have e : ((x % 128 + 128).toUInt8).toNat = x % 128 + 128 := by simp; omega
      rw [e]
      have h9 : i ≠ 9 := by
        rintro rfl
        have : 128 * 2 ^ (7 * 9) ≤ x * 2 ^ (7 * 9) := Nat.mul_le_mul_right _ (by omega)
        omega
      have e2 : (x % 128 + 128) % 128 = x % 128 := by omega
      have hp : 2 ^ (7 * (i + 1)) = 128 * 2 ^ (7 * i) := by rw [show 7 * (i + 1) = 7 * i + 7 by omega, Nat.pow_add, Nat.mul_comm]
      have hxx : x = x % 128 + 128 * (x / 128) := by omega
      have hsum : m + x % 128 * 2 ^ (7 * i) + x / 128 * 2 ^ (7 * (i + 1)) = m + x * 2 ^ (7 * i) := by
        rw [hp, Nat.add_assoc]
        congr 1
        generalize 2 ^ (7 * i) = p
        calc x % 128 * p + x / 128 * (128 * p) = (x % 128 + 128 * (x / 128)) * p := by rw [Nat.add_mul, ← Nat.mul_assoc, Nat.mul_comm (x / 128) 128]
          _ = x * p := by rw [← hxx]
      rw [if_neg (by omega), if_pos (by omega), e2, ih (x / 128) (i + 1) _ r (by omega) (by omega) (next_fits m x i hm) (by omega) (by omega), hsum]
      simp only [List.length_cons]
      congr 2
      omega

theorem rd_of (x : Nat) (h : x < 18446744073709551616) (r : List UInt8) : rd (Lib.uvarint x ++ r) 0 0 = (x, (Lib.uvarint x).length, 0) := by
  rw [rd_uvarint x x 0 0 r (Nat.le_refl _) (by omega) (by simp) (by simpa using h) (by omega)]
  simp

theorem rd_is {l : List UInt8} {n sz : Nat} (h : rd l 0 0 = (n, sz, 0)) : l = Lib.uvarint n ++ l.drop sz ∧ sz = (Lib.uvarint n).length := by
  obtain ⟨x, hn, hl, hs, hz, _⟩ := rd_canon l 0 0 n sz h
  simp at hn hl
  subst hn
  refine ⟨hl, ?_⟩
  have := congrArg List.length hl
  simp only [List.length_append, List.length_drop] at this
  omega

theorem zig_sgn (n : Nat) : Lib.zigzag (sgn n) = n := by
  unfold Lib.zigzag sgn
  split <;> split <;> omega

theorem sgn_zig (x : Int) : sgn (Lib.zigzag x) = x := by
  unfold Lib.zigzag sgn
  split <;> split <;> omega

theorem sgn_fits (n : Nat) (h : n < 18446744073709551616) : -9223372036854775808 ≤ sgn n ∧ sgn n ≤ 9223372036854775807 := by
  unfold sgn
  split <;> omega
end Go.Proofs.Ythdpgachdegcgaa
