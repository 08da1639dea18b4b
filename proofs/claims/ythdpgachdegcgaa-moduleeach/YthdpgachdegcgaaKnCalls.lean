/-
  Package kinds: Actor, Right, Of, Name answer as the plain functions say; nothing is touched.
-/
import Derived.Test.YthdpgachdegcgaaChecked
import Derived.Test.YthdpgachdegcgaaKnPure
namespace Go.Proofs.Ythdpgachdegcgaa
open Go.RowKit
set_option linter.unusedVariables false
set_option maxRecDepth 8192

theorem kret_int {k : IntKind} {a b : Int} (h : a = b) : Ending.returned (.int k a) = .returned (.int k b) := by rw [h]
theorem ret_bool {a b : Bool} (h : a = b) : Ending.returned (.bool a) = .returned (.bool b) := by rw [h]

set_option maxHeartbeats 400000 in
theorem actor_calls (t : Int) (w : World) : Calls Try.prog 106 #[.int .i64 t] w fun e w' => e = .returned (.tuple #[.int .i64 (actN t), .bool (actOk t)]) ∧ w = w' := by
  by_cases h : 16 ≤ t
  · by_cases h' : t < 24
    · rw [(act_yes h h').1, (act_yes h h').2]
      go_enter Try.func106, Try.ntmps106
      go_wp2
      go_ret2
      exact ⟨rfl, rfl⟩
    · rw [(act_no (by omega)).1, (act_no (by omega)).2]
      go_enter Try.func106, Try.ntmps106
      go_wp2
      go_ret2
      exact ⟨rfl, rfl⟩
  · rw [(act_no (by omega)).1, (act_no (by omega)).2]
    go_enter Try.func106, Try.ntmps106
    go_wp2
    go_ret2
    exact ⟨rfl, rfl⟩

set_option maxHeartbeats 400000 in
theorem kright_calls (t n : Int) (w : World) : Calls Try.prog 103 #[.int .i64 t, .int .i64 n] w fun e w' => e = .returned (.bool (krightB t n)) ∧ w = w' := by
  by_cases h1 : t = 1
  · subst h1
    go_enter Try.func103, Try.ntmps103
    go_wp2
    go_ret
    exact ⟨rfl, rfl⟩
  by_cases h2 : t = 2
  · subst h2
    go_enter Try.func103, Try.ntmps103
    go_wp2
    go_ret
    exact ⟨rfl, rfl⟩
  have b1 : (t == 1) = false := beq_eq_false_iff_ne.2 h1
  have b2 : (t == 2) = false := beq_eq_false_iff_ne.2 h2
  by_cases h : 16 ≤ t ∧ t < 24
  · have ha := (act_yes h.1 h.2).1
    have hb := (act_yes h.1 h.2).2
    have hr : krightB t n = decide (t - 16 < n) := by unfold krightB; simp [h1, h2, h.1, h.2]
    rw [hr]
    clear h1 h2 hr
    obtain ⟨h3, h4⟩ := h
    have Ha := hide ha
    have Hb := hide hb
    clear ha hb
    go_enter Try.func103, Try.ntmps103
    go_wp2_with (go_at_call 106; refine (actor_calls _ _).mono ?_; rintro e w' ⟨rfl, rfl⟩; rw [unhide Ha, unhide Hb])
    go_ret
    exact ⟨rfl, rfl⟩
  · have ha := (act_no (t := t) (by omega)).1
    have hb := (act_no (t := t) (by omega)).2
    have hr : krightB t n = false := by unfold krightB; simp [h1, h2]; omega
    rw [hr]
    clear h1 h2 hr
    have Ha := hide ha
    have Hb := hide hb
    clear ha hb h
    go_enter Try.func103, Try.ntmps103
    go_wp2_with (go_at_call 106; refine (actor_calls _ _).mono ?_; rintro e w' ⟨rfl, rfl⟩; rw [unhide Ha, unhide Hb])
    go_ret
    exact ⟨rfl, rfl⟩

end Go.Proofs.Ythdpgachdegcgaa
