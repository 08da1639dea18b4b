/-
  What a step makes of a word, in three kinds: a push, a start, neither.
-/
import Derived.Test.YtpchnpdolhogdaaWdNext
namespace Go.Proofs.Ytpchnpdolhogdaa
open Go.RowKit
set_option linter.unusedVariables false

/-- a step: a push · a start that is OK · neither, and the word is Queued as it was -/
theorem step_kind {d : Wd} (h : Ow d) {k : Nat} (hp : 0 < d.pc k) :
    ((wstp d k).2 = 1 ∧ (wstp d k).1.now = 1 ∧ d.now ≠ 1) ∨
    (k = 0 ∧ d.held = false ∧ (wstp d k).2 = 0 ∧ (wstp d k).1.now = 2 ∧ d.now = 1) ∨
    ((wstp d k).2 ≠ 1 ∧ ¬ (k = 0 ∧ d.held = false ∧ (wstp d k).2 = 0) ∧ ((wstp d k).1.now = 1 ↔ d.now = 1)) := by
  have e2 : (wstp d k).2 = (acc d.now d.held (d.pc k)).came := rfl
  have e1 : (wstp d k).1.now = (acc d.now d.held (d.pc k)).now := rfl
  rw [e2, e1]
  obtain ⟨a, b, c, e, f, g, i, j⟩ := h
  have h8 := a k
  by_cases hk : k = 0
  · subst hk
    have : d.pc 0 = 4 ∨ d.pc 0 = 5 ∨ d.pc 0 = 6 ∨ d.pc 0 = 7 ∨ d.pc 0 = 8 := by omega
    rcases this with q | q | q | q | q <;> rw [q] <;> simp only [acc]
    · have hh := g q
      by_cases hn : d.now = 1
      · rw [if_pos hn]; exact .inr (.inl ⟨by simp, hh, rfl, rfl, hn⟩)
      · rw [if_neg hn]; exact .inr (.inr ⟨by simp, by simp, Iff.rfl⟩)
    · have hh := i (by omega)
      have hn := f.1 hh
      refine .inr (.inr ?_)
      rw [hh]
      by_cases h2 : d.now = 2
      · rw [if_pos h2]; exact ⟨by simp, by simp, by simp [h2]⟩
      · rw [if_neg h2]; exact ⟨by simp, by simp, Iff.rfl⟩
    · have hh := i (by omega)
      have hn := j q
      refine .inr (.inr ?_)
      rw [hh, if_pos hn]
      exact ⟨by simp, by simp, by simp [hn]⟩
    · have hh := i (by omega)
      have hn := f.1 hh
      refine .inl ?_
      rcases hn with hn | hn <;> simp [hn]
    · have hh := i (by omega)
      have hn := f.1 hh
      refine .inr (.inr ?_)
      rw [hh]
      exact ⟨by simp, by simp, by simp; omega⟩
  · have h3 := c k (by omega)
    have : d.pc k = 1 ∨ d.pc k = 2 ∨ d.pc k = 3 := by omega
    have hk' : ∀ {q : Prop}, ¬ (k = 0 ∧ q) := fun h => hk h.1
    rcases this with q | q | q <;> rw [q] <;> simp only [acc]
    · refine .inr (.inr ⟨?_, hk', ?_⟩) <;> (repeat' split) <;> simp
    · by_cases h0 : d.now = 0
      · rw [if_pos h0]; exact .inl ⟨rfl, rfl, by omega⟩
      · rw [if_neg h0]; exact .inr (.inr ⟨by simp, hk', Iff.rfl⟩)
    · refine .inr (.inr ?_)
      by_cases h0 : d.now = 2
      · rw [if_pos h0]; exact ⟨by simp, hk', by simp [h0]⟩
      · rw [if_neg h0]; exact ⟨by simp, hk', Iff.rfl⟩

/-- the same behind a fresh start of the thread's -/
theorem kind_of {d : Wd} (h : Ow d) {k : Nat} (hk : k < 8) (o : Int) :
    ∃ d1 d2 x, lbg d k o = d1 ∧ wstp d1 k = (d2, x) ∧ Ow d1 ∧ Ow d2 ∧ 0 < d1.pc k ∧ d1.held = d.held ∧ d1.now = d.now ∧
    ((x = 1 ∧ d2.now = 1 ∧ d.now ≠ 1) ∨ (k = 0 ∧ d.held = false ∧ x = 0 ∧ d2.now = 2 ∧ d.now = 1) ∨ (x ≠ 1 ∧ ¬ (k = 0 ∧ d.held = false ∧ x = 0) ∧ (d2.now = 1 ↔ d.now = 1))) := by
  have h1 := lbg_ow h k o
  have hp := lbg_pos (d := d) hk o
  obtain ⟨s1, s2⟩ := lbg_same (d := d) hk o
  have hK := step_kind h1 hp
  rw [s1, s2] at hK
  exact ⟨_, _, _, rfl, rfl, h1, h1.wstp hp, hp, s2, s1, hK⟩

end Go.Proofs.Ytpchnpdolhogdaa
