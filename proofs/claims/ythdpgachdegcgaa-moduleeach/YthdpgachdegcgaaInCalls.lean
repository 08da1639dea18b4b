/-
  Right, Has, Name and Parse of package instr, and what they call.
-/
import Derived.Test.YthdpgachdegcgaaInPure
import Derived.Test.YthdpgachdegcgaaWrCalls
import Derived.Deep.MidRow
namespace Go.Proofs.Ythdpgachdegcgaa
open Go.RowKit
set_option linter.unusedVariables false
set_option maxRecDepth 8192

set_option maxHeartbeats 400000 in
theorem isOp_calls (op : Int) (w : World) :
    Calls Try.prog 105 #[.int .i64 op] w fun e w' => e = .returned (.bool (isOpB op)) ∧ w = w' := by
  cases h : isOpB op
  · have h' := (isOpB_no op).1 h
    by_cases h0 : 0 ≤ op
    · have h1 : ¬ op < 27 := by omega
      clear h h'
      go_enter Try.func105, Try.ntmps105
      go_wp2
      all_goals first | omega | (go_ret; exact ⟨rfl, rfl⟩)
    · clear h h'
      go_enter Try.func105, Try.ntmps105
      go_wp2
      all_goals first | omega | (go_ret; exact ⟨rfl, rfl⟩)
  · obtain ⟨h0, h1⟩ := (isOpB_iff op).1 h
    clear h
    go_enter Try.func105, Try.ntmps105
    go_wp2
    all_goals first | omega | (go_ret; exact ⟨rfl, rfl⟩)

theorem ret_span {a b a' b' : Int} {c c' : Bool} (h1 : a = a') (h2 : b = b') (h3 : c = c') : Ending.returned (.tuple #[.int .i64 a, .int .i64 b, .bool c]) = .returned (.tuple #[.int .i64 a', .int .i64 b', .bool c']) := by rw [h1, h2, h3]

set_option maxHeartbeats 1000000 in
theorem span_calls (op : Int) (w : World) :
    Calls Try.prog 104 #[.int .i64 op] w fun e w' => e = .returned (.tuple #[.int .i64 (least op), .int .i64 (most op), .bool (hasB op)]) ∧ w = w' := by
  rcases (by omega : op = 1 ∨ op = 4 ∨ op = 5 ∨ op = 16 ∨ op = 17 ∨ op = 19 ∨ op = 20 ∨ op = 21 ∨ (op ≠ 1 ∧ op ≠ 4 ∧ op ≠ 5 ∧ op ≠ 16 ∧ op ≠ 17 ∧ op ≠ 19 ∧ op ≠ 20 ∧ op ≠ 21)) with rfl | rfl | rfl | rfl | rfl | rfl | rfl | rfl | ⟨h1, h2, h3, h4, h5, h6, h7, h8⟩
  iterate 8
    · go_enter Try.func104, Try.ntmps104
      go_wp2
      go_ret3
      exact ⟨rfl, rfl⟩
  · have e1 : (op == 1) = false := beq_eq_false_iff_ne.2 h1
    have e2 : (op == 4) = false := beq_eq_false_iff_ne.2 h2
    have e3 : (op == 5) = false := beq_eq_false_iff_ne.2 h3
    have e4 : (op == 16) = false := beq_eq_false_iff_ne.2 h4
    have e5 : (op == 17) = false := beq_eq_false_iff_ne.2 h5
    have e6 : (op == 19) = false := beq_eq_false_iff_ne.2 h6
    have e7 : (op == 20) = false := beq_eq_false_iff_ne.2 h7
    have e8 : (op == 21) = false := beq_eq_false_iff_ne.2 h8
    have hh : hasB op = false := by simp [hasB, e1, e2, e3, e4, e5, e6, e7, e8]
    have hn := no_number hh
    rw [hn.1, hn.2, hh]
    clear hn hh h1 h2 h3 h4 h5 h6 h7 h8
    go_enter Try.func104, Try.ntmps104
    go_wp2
    go_ret3
    exact ⟨rfl, rfl⟩

set_option maxHeartbeats 400000 in
theorem has_calls (op : Int) (w : World) :
    Calls Try.prog 99 #[.int .i64 op] w fun e w' => e = .returned (.bool (hasB op)) ∧ w = w' := by
  go_enter Try.func99, Try.ntmps99
  go_wp2_with (go_at_call 104; refine (span_calls _ _).mono ?_; rintro e w' ⟨rfl, rfl⟩)
  go_ret
  exact ⟨rfl, rfl⟩

/-- an instruction as a value -/
abbrev insV (op a : Int) : Value := .agg #[.int .i64 op, .int .i64 a]

set_option maxHeartbeats 1000000 in
theorem right_calls (op a : Int) (w : World) :
    Calls Try.prog 96 #[insV op a] w fun e w' => e = .returned (.bool (rightB op a)) ∧ Fr (fun _ => False) w w' := by
  have hR : rightB op a = (isOpB op && decide (least op ≤ a) && decide (a ≤ most op)) := rfl
  rw [hR]
  clear hR
  generalize hl : least op = l
  generalize hm : most op = m
  generalize hi : isOpB op = i
  have HL := hide hl
  have HM := hide hm
  have HI := hide hi
  clear hl hm hi
  cases i
  all_goals by_cases h1 : l ≤ a
  all_goals by_cases h2 : a ≤ m
  all_goals
    go_enter Try.func96, Try.ntmps96
    go_wp2_with (first | (go_at_call 104; refine (span_calls _ _).mono ?_; rw [unhide HL, unhide HM]; rintro e w' ⟨rfl, rfl⟩) | (go_at_call 105; refine (isOp_calls _ _).mono ?_; rw [unhide HI]; rintro e w' ⟨rfl, rfl⟩))
    all_goals first | omega | (go_ret; refine ⟨?_, (Fr.refl _ w).alloc _⟩; simp [h1, h2])

end Go.Proofs.Ythdpgachdegcgaa
