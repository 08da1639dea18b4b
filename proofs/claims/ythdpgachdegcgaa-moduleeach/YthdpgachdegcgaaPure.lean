/-
  Plain arithmetic of layer 1: how many bytes a number takes. Of no program.
-/
import Derived.Lib.BitFns
import Derived.Lib.Varint
namespace Go.Proofs.Ythdpgachdegcgaa
set_option linter.unusedVariables false

theorem bitLen_128 (x : Nat) (h : 128 ≤ x) (hx : x < 18446744073709551616) : Lib.bitLen x = 7 + Lib.bitLen (x / 128) :=
  Lib.bitLen_shift 7 x h hx

theorem bitLen_pos (x : Nat) (h : 1 ≤ x) (hx : x < 18446744073709551616) : 1 ≤ Lib.bitLen x := by
  rw [Lib.bitLen_half x (by omega) hx]; omega

theorem numLen_nat : ∀ (k x : Nat), x ≤ k → x < 18446744073709551616 → max 1 ((Lib.bitLen x + 6) / 7) = (Lib.uvarint x).length := by
  intro k
  induction k with
  | zero =>
    intro x hx _
    obtain rfl : x = 0 := by omega
    rw [Lib.uvarint_small (by omega)]
    decide
  | succ k ih =>
    intro x hx h64
    by_cases h : x < 128
    · rw [Lib.uvarint_small h]
      have := Lib.bitLen_le x 7 (by omega) (by omega)
      simp only [List.length_cons, List.length_nil]
      omega
    · rw [Lib.uvarint_big (by omega), bitLen_128 x (by omega) h64]
      have hp := bitLen_pos (x / 128) (by omega) (by omega)
      have := ih (x / 128) (by omega) (by omega)
      simp only [List.length_cons]
      omega

theorem numLen_of (x : Nat) (h : x < 18446744073709551616) : max 1 ((Lib.bitLen x + 6) / 7) = (Lib.uvarint x).length := numLen_nat x x (Nat.le_refl _) h

theorem bitLen_64 (x : Nat) (h : x < 18446744073709551616) : Lib.bitLen x ≤ 64 := Lib.bitLen_le x 64 (by omega) (by omega)

/-- a number's bytes, as the model's numbers -/
def vb (x : Nat) : List Int := (Lib.uvarint x).map (fun b => (b.toNat : Int))

theorem vb_small {x : Nat} (h : x < 128) : vb x = [(x : Int)] := by
  unfold vb; rw [Lib.uvarint_small h]; simp; omega

theorem vb_big {x : Nat} (h : 128 ≤ x) : vb x = ((x % 128 + 128 : Nat) : Int) :: vb (x / 128) := by
  unfold vb; rw [Lib.uvarint_big h]; simp; omega

theorem vb_length (x : Nat) : (vb x).length = (Lib.uvarint x).length := by simp [vb]

theorem vb_le (x : Nat) (h : x < 18446744073709551616) : (vb x).length ≤ 10 := by rw [vb_length]; exact Lib.uvarint_length64 h

theorem vb_pos (x : Nat) : 1 ≤ (vb x).length := by rw [vb_length]; exact Lib.uvarint_pos x

theorem vb_mono : ∀ (k a b : Nat), a ≤ k → a ≤ b → (vb a).length ≤ (vb b).length := by
  intro k
  induction k with
  | zero =>
    intro a b ha hab
    obtain rfl : a = 0 := by omega
    rw [vb_small (by omega)]
    exact vb_pos b
  | succ k ih =>
    intro a b ha hab
    by_cases h : a < 128
    · rw [vb_small h]; exact vb_pos b
    · rw [vb_big (x := a) (by omega), vb_big (x := b) (by omega)]
      have := ih (a / 128) (b / 128) (by omega) (by omega)
      simp only [List.length_cons]
      omega

/-- a number without a sign as one with -/
def sgn (x : Int) : Int := if x % 2 = 0 then x / 2 else -(x / 2) - 1

/-- a writer's state: what it has, its error; behind ys more bytes -/
def put (L : Int) (s : List Int × Int) (ys : List Int) : List Int × Int :=
  if s.2 ≠ 0 then s else if (ys.length : Int) > L - s.1.length then (s.1, 3) else (s.1 ++ ys, 0)

/-- behind what is no field -/
def bad (s : List Int × Int) : List Int × Int := if s.2 ≠ 0 then s else (s.1, 4)

end Go.Proofs.Ythdpgachdegcgaa
