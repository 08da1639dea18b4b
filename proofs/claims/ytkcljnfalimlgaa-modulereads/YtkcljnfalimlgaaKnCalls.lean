/-
  Package kinds: Actor, Right, Of, Name answer as the plain functions say; nothing is touched.
-/
import Derived.Test.YtkcljnfalimlgaaChecked
import Derived.Test.YtkcljnfalimlgaaKnPure
namespace Go.Proofs.Ytkcljnfalimlgaa
open Go.RowKit
set_option linter.unusedVariables false
set_option maxRecDepth 8192

theorem kret_int {k : IntKind} {a b : Int} (h : a = b) : Ending.returned (.int k a) = .returned (.int k b) := by rw [h]
theorem ret_bool {a b : Bool} (h : a = b) : Ending.returned (.bool a) = .returned (.bool b) := by rw [h]

set_option maxHeartbeats 400000 in
theorem actor_calls (t : Int) (w : World) : Calls Try.prog 128 #[.int .i64 t] w fun e w' => e = .returned (.tuple #[.int .i64 (actN t), .bool (actOk t)]) ∧ w = w' := by
  by_cases h : 16 ≤ t
  · by_cases h' : t < 24
    · rw [(act_yes h h').1, (act_yes h h').2]
      go_enter Try.func128, Try.ntmps128
      go_wp2
      go_ret2
      exact ⟨rfl, rfl⟩
    · rw [(act_no (by omega)).1, (act_no (by omega)).2]
      go_enter Try.func128, Try.ntmps128
      go_wp2
      go_ret2
      exact ⟨rfl, rfl⟩
  · rw [(act_no (by omega)).1, (act_no (by omega)).2]
    go_enter Try.func128, Try.ntmps128
    go_wp2
    go_ret2
    exact ⟨rfl, rfl⟩

set_option maxHeartbeats 400000 in
theorem kright_calls (t n : Int) (w : World) : Calls Try.prog 130 #[.int .i64 t, .int .i64 n] w fun e w' => e = .returned (.bool (krightB t n)) ∧ w = w' := by
  by_cases h1 : t = 1
  · subst h1
    go_enter Try.func130, Try.ntmps130
    go_wp2
    go_ret
    exact ⟨rfl, rfl⟩
  by_cases h2 : t = 2
  · subst h2
    go_enter Try.func130, Try.ntmps130
    go_wp2
    go_ret
    exact ⟨rfl, rfl⟩
  have b1 : (t == 1) = false := beq_eq_false_iff_ne.2 h1
  have b2 : (t == 2) = false := beq_eq_false_iff_ne.2 h2
  by_cases h : 16 ≤ t ∧ t < 24
  · have ha := (act_yes h.1 h.2).1
    have hb := (act_yes h.1 h.2).2
    have hr : krightB t n = decide (t - 16 < n) := by unfold krightB; simp [h1, h2, h.1, h.2]
    rw [hr]
    clear h1 h2 hr
    obtain ⟨h3, h4⟩ := h
    have Ha := hide ha
    have Hb := hide hb
    clear ha hb
    go_enter Try.func130, Try.ntmps130
    go_wp2_with (go_at_call 128; refine (actor_calls _ _).mono ?_; rintro e w' ⟨rfl, rfl⟩; rw [unhide Ha, unhide Hb])
    go_ret
    exact ⟨rfl, rfl⟩
  · have ha := (act_no (t := t) (by omega)).1
    have hb := (act_no (t := t) (by omega)).2
    have hr : krightB t n = false := by unfold krightB; simp [h1, h2]; omega
    rw [hr]
    clear h1 h2 hr
    have Ha := hide ha
    have Hb := hide hb
    clear ha hb h
    go_enter Try.func130, Try.ntmps130
    go_wp2_with (go_at_call 128; refine (actor_calls _ _).mono ?_; rintro e w' ⟨rfl, rfl⟩; rw [unhide Ha, unhide Hb])
    go_ret
    exact ⟨rfl, rfl⟩

set_option maxHeartbeats 400000 in
theorem of_calls (k : Int) (w : World) : Calls Try.prog 127 #[.int .i64 k] w fun e w' => e = .returned (.tuple #[.int .i64 (ofN k), .bool (ofOk k)]) ∧ w = w' := by
  by_cases h : 0 ≤ k
  · by_cases h' : k < 8
    · have h1 : ofN k = 16 + k := by unfold ofN; rw [if_pos ⟨h, h'⟩]
      have h2 : ofOk k = true := by unfold ofOk; simp [h, h']
      rw [h1, h2]
      clear h1 h2
      go_enter Try.func127, Try.ntmps127
      go_wp2
      go_ret2
      exact ⟨rfl, rfl⟩
    · have h1 : ofN k = 0 := by unfold ofN; rw [if_neg (by omega)]
      have h2 : ofOk k = false := by unfold ofOk; simp; omega
      rw [h1, h2]
      clear h1 h2
      go_enter Try.func127, Try.ntmps127
      go_wp2
      go_ret2
      exact ⟨rfl, rfl⟩
  · have h1 : ofN k = 0 := by unfold ofN; rw [if_neg (by omega)]
    have h2 : ofOk k = false := by unfold ofOk; simp; omega
    rw [h1, h2]
    clear h1 h2
    go_enter Try.func127, Try.ntmps127
    go_wp2
    go_ret2
    exact ⟨rfl, rfl⟩

end Go.Proofs.Ytkcljnfalimlgaa
