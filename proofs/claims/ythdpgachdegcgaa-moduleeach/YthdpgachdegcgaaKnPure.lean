/-
  Types of values as numbers: which are right, their actors, their names. Plain functions, of no program.
-/
import Derived.Test.YthdpgachdegcgaaKit
namespace Go.Proofs.Ythdpgachdegcgaa
set_option linter.unusedVariables false


def actOk (t : Int) : Bool := decide (16 ≤ t ∧ t < 24)
def actN (t : Int) : Int := if 16 ≤ t ∧ t < 24 then t - 16 else 0
def krightB (t n : Int) : Bool := decide (t = 1 ∨ t = 2 ∨ (16 ≤ t ∧ t < 24 ∧ t - 16 < n))

/-- A type's name, as bytes. -/
def nameL (t : Int) : List UInt8 :=
  if t = 1 then [105, 110, 116] else if t = 2 then [98, 111, 111, 108] else if 16 ≤ t ∧ t < 24 then [112, 105, 100, UInt8.ofNat (48 + (t - 16).toNat)] else []
def nameS (t : Int) : ByteArray := ⟨(nameL t).toArray⟩

theorem act_yes {t : Int} (h : 16 ≤ t) (h' : t < 24) : actOk t = true ∧ actN t = t - 16 := by
  unfold actOk actN; exact ⟨by simp [h, h'], by rw [if_pos ⟨h, h'⟩]⟩
theorem act_no {t : Int} (h : t < 16 ∨ 24 ≤ t) : actOk t = false ∧ actN t = 0 := by
  unfold actOk actN; exact ⟨by simp; omega, by rw [if_neg (by omega)]⟩
theorem actN_le (t : Int) : 0 ≤ actN t ∧ actN t < 8 := by unfold actN; split <;> omega

def ofOk (k : Int) : Bool := decide (0 ≤ k ∧ k < 8)
def ofN (k : Int) : Int := if 0 ≤ k ∧ k < 8 then 16 + k else 0

/-- What a text is read as: a type, or 0. -/
def parseT (l : List UInt8) : Int :=
  if l = [105, 110, 116] then 1 else if l = [98, 111, 111, 108] then 2 else if l.length = 4 ∧ l.take 3 = [112, 105, 100] then ofN (((l.getD 3 0).toNat : Int) - 48) else 0
def parseB (l : List UInt8) : Bool :=
  if l = [105, 110, 116] then true else if l = [98, 111, 111, 108] then true else if l.length = 4 ∧ l.take 3 = [112, 105, 100] then ofOk (((l.getD 3 0).toNat : Int) - 48) else false

theorem bytes_of {s : ByteArray} {l : List UInt8} (h : s.data.toList = l) : s = ⟨l.toArray⟩ := by
  subst h; cases s; simp
theorem pid_form {l : List UInt8} (h : l.length = 4 ∧ l.take 3 = [112, 105, 100]) : ∃ c, l = [112, 105, 100, c] := by
  obtain ⟨h1, h2⟩ := h
  match l, h1 with
  | [a, b, c, d], _ => simp at h2; obtain ⟨rfl, rfl, rfl⟩ := h2; exact ⟨d, rfl⟩

end Go.Proofs.Ythdpgachdegcgaa
