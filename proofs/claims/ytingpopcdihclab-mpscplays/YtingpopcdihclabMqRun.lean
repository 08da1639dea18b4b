/-
  Puts and Takes that are done whole, one behind the other. Of no program.
-/
import Derived.Test.YtingpopcdihclabMqEv
namespace Go.Proofs.Ytingpopcdihclab
set_option linter.unusedVariables false

/-- thread k makes s accesses -/
def qit (q : Qu) (k : Nat) : Nat → Qu
  | 0 => q
  | s + 1 => (qstp (qit q k s) k).1

/-- n accesses, of which the last one ends the operation and tells y -/
structure Run (q : Qu) (k n : Nat) (y : Qn) (q' : Qu) (R' : List Nat) : Prop where
  each : ∀ s, s < n → 0 < ((qit q k s).th k).pc ∧ (qstp (qit q k s) k).2 = if s + 1 = n then y else Qn.none
  last : qit q k n = q'
  lin : Lin q' R'
  th : ∀ j, q'.th j = Rq.zero
  v : q'.v = q.v
  ids : q'.ids = q.ids

theorem run_put {q : Qu} {R : List Nat} (L : Lin q R) (W : Wf q) {k x : Nat} (hk : k ≠ 0) (hr : q.th k = ⟨1, some x, none⟩) (ho : ∀ j, j ≠ k → q.th j = Rq.zero) :
    ∃ q', Run q k 3 ⟨true, false, q.v x, 0⟩ q' (R ++ [x]) := by
  obtain ⟨q1, e1, L1, ⟨v1, i1, t1⟩, h1⟩ := ev_p1 L W hk hr
  have W1 : Wf q1 := by have := W.stp (k := k) (by rw [hr]; show 0 < 1; omega); rw [e1] at this; exact this
  obtain ⟨q2, p, e2, L2, ⟨v2, i2, t2⟩, h2⟩ := ev_p2 L1 W1 hk h1
  obtain ⟨q3, e3, L3, ⟨v3, i3, t3⟩, h3⟩ := ev_p3 L2 hk h2
  have g1 : qit q k 1 = q1 := by simp only [qit, e1]
  have g2 : qit q k 2 = q2 := by show (qstp (qit q k 1) k).1 = q2; rw [g1, e2]
  have g3 : qit q k 3 = q3 := by show (qstp (qit q k 2) k).1 = q3; rw [g2, e3]
  refine ⟨q3, fun s hs => ?_, g3, L3, fun j => ?_, by rw [v3, v2, v1], by rw [i3, i2, i1]⟩
  · have : s = 0 ∨ s = 1 ∨ s = 2 := by omega
    rcases this with rfl | rfl | rfl
    · exact ⟨by show 0 < (q.th k).pc; rw [hr]; show 0 < 1; omega, by show (qstp q k).2 = _; rw [e1]; rfl⟩
    · rw [g1]; exact ⟨by rw [h1]; show 0 < 2; omega, by rw [e2]; rfl⟩
    · rw [g2]; exact ⟨by rw [h2]; show 0 < 3; omega, by rw [e3, v2, v1]; rfl⟩
  · by_cases e : j = k
    · subst e; exact h3
    · rw [t3 j e, t2 j e, t1 j e]; exact ho j e

theorem run_take {q : Qu} {R : List Nat} (L : Lin q R) (W : Wf q) (hr : q.th 0 = ⟨1, none, none⟩) (ho : ∀ j, j ≠ 0 → q.th j = Rq.zero) :
    ∃ q' R' y, Run q 0 2 y q' R' ∧ ((∃ n, R = n :: R' ∧ y = ⟨true, true, q.v n, 0⟩) ∨ (R = [] ∧ R' = [] ∧ y = ⟨true, true, 0, 8⟩)) := by
  obtain ⟨q1, e1, L1, ⟨v1, i1, t1⟩, h1⟩ := ev_t1 L hr
  have W1 : Wf q1 := by have := W.stp (k := 0) (by rw [hr]; show 0 < 1; omega); rw [e1] at this; exact this
  obtain ⟨q2, y, R', e2, L2, ⟨v2, i2, t2⟩, hpc, hz, hE⟩ := ev_take L1 W1 (by rw [h1]; omega) (by rw [h1]; omega)
  have g1 : qit q 0 1 = q1 := by simp only [qit, e1]
  have g2 : qit q 0 2 = q2 := by show (qstp (qit q 0 1) 0).1 = q2; rw [g1, e2]
  have hy : y.over = true := by
    rcases hE with ⟨n, _, rfl⟩ | ⟨_, _, rfl⟩ | ⟨_, _, rfl⟩ <;> rfl
  refine ⟨q2, R', y, ⟨fun s hs => ?_, g2, L2, fun j => ?_, by rw [v2, v1], by rw [i2, i1]⟩, ?_⟩
  · have : s = 0 ∨ s = 1 := by omega
    rcases this with rfl | rfl
    · exact ⟨by show 0 < (q.th 0).pc; rw [hr]; show 0 < 1; omega, by show (qstp q 0).2 = _; rw [e1]; rfl⟩
    · rw [g1]; exact ⟨by rw [h1]; omega, by rw [e2]; rfl⟩
  · by_cases e : j = 0
    · subst e; exact hz
    · rw [t2 j e, t1 j e]; exact ho j e
  · rcases hE with ⟨n, h, rfl⟩ | h | ⟨hR, rfl, rfl⟩
    · exact .inl ⟨n, h, by rw [v1]⟩
    · exact .inr h
    · -- not calm: a next that isn't there yet
      exfalso
      cases R' with
      | nil => exact hR rfl
      | cons a R =>
        have e1' := qstp_t1 q hr
        rw [e1] at e1'
        cases e1'
        have hl : q.nx q.tail = some a := by
          rcases L.link 0 q.tail a rfl rfl with e | ⟨_, j, hj, e⟩
          · exact e
          · rw [ho j hj] at e; cases e
        have ht : (q.set 0 ⟨2, q.nx q.tail, none⟩).th 0 = ⟨2, some a, none⟩ := by rw [qset_th, hl]
        rw [qstp_t2 _ ht] at e2
        have := congrArg (fun p : Qu × Qn => p.2.err) e2
        simp at this

/-- where nobody has anything under way, all that was put can be come to -/
theorem chn_all {q : Qu} {R : List Nat} (L : Lin q R) (h : ∀ j, q.th j = Rq.zero) : Chn q (q.nx q.tail) R := by
  obtain ⟨l, c, _, e⟩ := L.chn
  rw [← e (fun k _ => by rw [h k]; show (0 : Nat) ≠ 3; omega)]
  exact c

end Go.Proofs.Ytingpopcdihclab
