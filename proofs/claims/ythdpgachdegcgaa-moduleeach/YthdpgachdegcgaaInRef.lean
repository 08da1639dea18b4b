/-
  Is, Most, Has, Right, Names, Name and Parse of the reference of layer 4.
-/
import Derived.Test.YthdpgachdegcgaaInRead
import Derived.Test.YthdpgachdegcgaaApp
namespace Go.Proofs.Ythdpgachdegcgaa
open Go.RowKit
set_option linter.unusedVariables false
set_option maxRecDepth 100000

set_option maxHeartbeats 400000 in
theorem xis_calls (op : Int) (w : World) :
    Calls Try.prog 58 #[.int .i64 op] w fun e w' => e = .returned (.bool (isOpB op)) ∧ w = w' := by
  cases h : isOpB op
  · have h' := (isOpB_no op).1 h
    by_cases h0 : 0 ≤ op
    · have h1 : ¬ op ≤ 26 := by omega
      clear h h'
      go_enter Try.func58, Try.ntmps58
      go_wp2
      all_goals first | omega | (go_ret; exact ⟨rfl, rfl⟩)
    · clear h h'
      go_enter Try.func58, Try.ntmps58
      go_wp2
      all_goals first | omega | (go_ret; exact ⟨rfl, rfl⟩)
  · obtain ⟨h0, h1'⟩ := (isOpB_iff op).1 h
    have h1 : op ≤ 26 := by omega
    clear h h1'
    go_enter Try.func58, Try.ntmps58
    go_wp2
    all_goals first | omega | (go_ret; exact ⟨rfl, rfl⟩)

/-- the greatest number, as the reference has it -/
def mostR (op : Int) : Int := if op = 1 then -2 else if hasB op then most op else -1

set_option maxHeartbeats 1000000 in
theorem xmost_calls (op : Int) (w : World) :
    Calls Try.prog 81 #[.int .i64 op] w fun e w' => e = .returned (.int .i64 (mostR op)) ∧ w = w' := by
  rcases (by omega : op = 1 ∨ op = 4 ∨ op = 5 ∨ op = 16 ∨ op = 17 ∨ op = 19 ∨ op = 20 ∨ op = 21 ∨ (op ≠ 1 ∧ op ≠ 4 ∧ op ≠ 5 ∧ op ≠ 16 ∧ op ≠ 17 ∧ op ≠ 19 ∧ op ≠ 20 ∧ op ≠ 21)) with rfl | rfl | rfl | rfl | rfl | rfl | rfl | rfl | ⟨h1, h2, h3, h4, h5, h6, h7, h8⟩
  iterate 8
    · go_enter Try.func81, Try.ntmps81
      go_wp2
      go_ret
      exact ⟨rfl, rfl⟩
  · have e1 : (op == 1) = false := beq_eq_false_iff_ne.2 h1
    have e2 : (op == 4) = false := beq_eq_false_iff_ne.2 h2
    have e3 : (op == 5) = false := beq_eq_false_iff_ne.2 h3
    have e4 : (op == 16) = false := beq_eq_false_iff_ne.2 h4
    have e5 : (op == 17) = false := beq_eq_false_iff_ne.2 h5
    have e6 : (op == 19) = false := beq_eq_false_iff_ne.2 h6
    have e7 : (op == 20) = false := beq_eq_false_iff_ne.2 h7
    have e8 : (op == 21) = false := beq_eq_false_iff_ne.2 h8
    have hh : mostR op = -1 := by
      have : hasB op = false := by simp [hasB, e1, e2, e3, e4, e5, e6, e7, e8]
      simp [mostR, this, h1]
    rw [hh]
    clear hh h1 h2 h3 h4 h5 h6 h7 h8
    go_enter Try.func81, Try.ntmps81
    go_wp2
    go_ret
    exact ⟨rfl, rfl⟩

theorem mostR_no {op : Int} (h : hasB op = false) : mostR op = -1 := by
  unfold mostR
  rw [if_neg (by rintro rfl; simp [hasB] at h), h]
  simp

theorem mostR_yes {op : Int} (h : hasB op = true) : (op = 1 ∧ mostR op = -2) ∨ (op ≠ 1 ∧ mostR op = most op ∧ least op = 0 ∧ 0 ≤ most op) := by
  unfold mostR
  by_cases h1 : op = 1
  · exact .inl ⟨h1, by rw [if_pos h1]⟩
  · refine .inr ⟨h1, ?_, ?_, most_lo op⟩
    · rw [if_neg h1, h]; rfl
    · unfold least; rw [if_neg h1]

set_option maxHeartbeats 1000000 in
theorem xhas_calls (op : Int) (w : World) :
    Calls Try.prog 59 #[.int .i64 op] w fun e w' => e = .returned (.bool (hasB op)) ∧ w = w' := by
  cases hh : hasB op
  · cases hi : isOpB op
    · have HI := hide hi
      clear hi hh
      go_enter Try.func59, Try.ntmps59
      go_wp2_with (first | (go_at_call 58; refine (xis_calls _ _).mono ?_; rw [unhide HI]; rintro e w' ⟨rfl, rfl⟩))
      go_ret
      exact ⟨rfl, rfl⟩
    · have HI := hide hi
      have HM := hide (mostR_no hh)
      clear hi hh
      go_enter Try.func59, Try.ntmps59
      go_wp2_with (first | (go_at_call 58; refine (xis_calls _ _).mono ?_; rw [unhide HI]; rintro e w' ⟨rfl, rfl⟩) | (go_at_call 81; refine (xmost_calls _ _).mono ?_; rw [unhide HM]; rintro e w' ⟨rfl, rfl⟩))
      go_ret
      exact ⟨rfl, rfl⟩
  · have HI := hide (hasB_isOp hh)
    have hm : (mostR op != -1) = true := by
      rw [bne_iff_ne]
      rcases mostR_yes hh with ⟨_, e⟩ | ⟨_, e, _, h0⟩ <;> omega
    clear hh
    go_enter Try.func59, Try.ntmps59
    go_wp2_with (first | (go_at_call 58; refine (xis_calls _ _).mono ?_; rw [unhide HI]; rintro e w' ⟨rfl, rfl⟩) | (go_at_call 81; refine (xmost_calls _ _).mono ?_; rintro e w' ⟨rfl, rfl⟩))
    go_ret
    exact ⟨rfl, rfl⟩

set_option maxHeartbeats 1000000 in
theorem xright_calls (op a : Int) (w : World) (ha : -9223372036854775808 ≤ a ∧ a ≤ 9223372036854775807) :
    Calls Try.prog 60 #[insV op a] w fun e w' => e = .returned (.bool (rightB op a)) ∧ Fr (fun _ => False) w w' := by
  cases hi : isOpB op
  · have hR : rightB op a = false := by simp [rightB, hi]
    rw [hR]
    have HI := hide hi
    clear hi hR ha
    go_enter Try.func60, Try.ntmps60
    go_wp2_with (first | (go_at_call 58; refine (xis_calls _ _).mono ?_; rw [unhide HI]; rintro e w' ⟨rfl, rfl⟩))
    go_ret
    exact ⟨rfl, (Fr.refl _ w).alloc _⟩
  · have HI := hide hi
    cases hh : hasB op
    · have hR : rightB op a = (a == 0) := by
        obtain ⟨e1, e2⟩ := no_number hh
        rw [Bool.eq_iff_iff, rightB_iff, e1, e2]
        simp [hi]
        omega
      rw [hR]
      have HM := hide (mostR_no hh)
      clear hi hh hR ha
      go_enter Try.func60, Try.ntmps60
      go_wp2_with (first | (go_at_call 58; refine (xis_calls _ _).mono ?_; rw [unhide HI]; rintro e w' ⟨rfl, rfl⟩) | (go_at_call 81; refine (xmost_calls _ _).mono ?_; rw [unhide HM]; rintro e w' ⟨rfl, rfl⟩))
      go_ret
      exact ⟨rfl, (Fr.refl _ w).alloc _⟩
    · rcases mostR_yes hh with ⟨rfl, e⟩ | ⟨h1, e, el, h0⟩
      · have hR : rightB 1 a = true := by
          rw [rightB_iff]
          refine ⟨hi, ?_, ?_⟩
          · rw [show least 1 = -9223372036854775808 from rfl]; exact ha.1
          · rw [show most 1 = 9223372036854775807 from rfl]; exact ha.2
        rw [hR]
        have HM := hide e
        clear hi hh hR ha e
        go_enter Try.func60, Try.ntmps60
        go_wp2_with (first | (go_at_call 58; refine (xis_calls _ _).mono ?_; rw [unhide HI]; rintro e w' ⟨rfl, rfl⟩) | (go_at_call 81; refine (xmost_calls _ _).mono ?_; rw [unhide HM]; rintro e w' ⟨rfl, rfl⟩))
        go_ret
        exact ⟨rfl, (Fr.refl _ w).alloc _⟩
      · have hR : rightB op a = (decide (0 ≤ a) && decide (a ≤ most op)) := by
          rw [Bool.eq_iff_iff, rightB_iff, el]
          simp [hi]
        rw [hR]
        have HM := hide e
        clear hi hh hR ha e el
        generalize most op = m at *
        have hm2 : (m == -2) = false := beq_eq_false_iff_ne.2 (by omega)
        have hm1 : (m == -1) = false := beq_eq_false_iff_ne.2 (by omega)
        by_cases k0 : 0 ≤ a
        all_goals by_cases k1 : a ≤ m
        all_goals
          go_enter Try.func60, Try.ntmps60
          go_wp2_with (first | (go_at_call 58; refine (xis_calls _ _).mono ?_; rw [unhide HI]; rintro e w' ⟨rfl, rfl⟩) | (go_at_call 81; refine (xmost_calls _ _).mono ?_; rw [unhide HM]; rintro e w' ⟨rfl, rfl⟩))
          all_goals first | omega | (go_ret; refine ⟨?_, (Fr.refl _ w).alloc _⟩; simp [k0, k1])

end Go.Proofs.Ythdpgachdegcgaa
