/-
  Package kinds: Name answers as the plain function says; nothing is touched.
-/
import Derived.Test.YtbckmmodobennaaDoorKnCalls
namespace Go.Proofs.YtbckmmodobennaaDoor
open Go.RowKit
set_option linter.unusedVariables false

set_option maxHeartbeats 1000000 in
theorem name_pid (t : Int) (d : UInt8) (w : World) (h : (t, d) ∈ [(16, 48), (17, 49), (18, 50), (19, 51), (20, 52), (21, 53), (22, 54), (23, 55)]) :
    Calls Tryd.prog 21 #[.int .i64 t] w fun e w' => e = .returned (.string ⟨#[112, 105, 100, d]⟩) ∧ w = w' := by
  simp only [List.mem_cons, Prod.mk.injEq, List.not_mem_nil, or_false] at h
  rcases h with ⟨rfl, rfl⟩ | ⟨rfl, rfl⟩ | ⟨rfl, rfl⟩ | ⟨rfl, rfl⟩ | ⟨rfl, rfl⟩ | ⟨rfl, rfl⟩ | ⟨rfl, rfl⟩ | ⟨rfl, rfl⟩
  all_goals
    go_enter Tryd.func21, Tryd.ntmps21
    go_wp2
    go_ret
    exact ⟨rfl, rfl⟩

set_option maxHeartbeats 1000000 in
theorem name_calls (t : Int) (w : World) : Calls Tryd.prog 21 #[.int .i64 t] w fun e w' => e = .returned (.string (nameS t)) ∧ w = w' := by
  by_cases h1 : t = 1
  · subst h1
    go_enter Tryd.func21, Tryd.ntmps21
    go_wp2
    go_ret
    exact ⟨rfl, rfl⟩
  by_cases h2 : t = 2
  · subst h2
    go_enter Tryd.func21, Tryd.ntmps21
    go_wp2
    go_ret
    exact ⟨rfl, rfl⟩
  by_cases h : 16 ≤ t ∧ t < 24
  · have hc : t = 16 ∨ t = 17 ∨ t = 18 ∨ t = 19 ∨ t = 20 ∨ t = 21 ∨ t = 22 ∨ t = 23 := by omega
    clear h1 h2 h
    rcases hc with rfl | rfl | rfl | rfl | rfl | rfl | rfl | rfl
    all_goals exact (name_pid _ _ w (by decide)).mono fun e w' h => h
  · have hn : nameS t = ⟨#[]⟩ := by unfold nameS nameL; rw [if_neg h1, if_neg h2, if_neg h]
    rw [hn]
    have b1 : (t == 1) = false := beq_eq_false_iff_ne.2 h1
    have b2 : (t == 2) = false := beq_eq_false_iff_ne.2 h2
    have Ha := hide (act_no (t := t) (by omega)).1
    have Hb := hide (act_no (t := t) (by omega)).2
    clear h1 h2 h hn
    go_enter Tryd.func21, Tryd.ntmps21
    go_wp2_with (go_at_call 10; refine (actor_calls _ _).mono ?_; rintro e w' ⟨rfl, rfl⟩; rw [unhide Ha, unhide Hb])
    go_ret
    exact ⟨rfl, rfl⟩
end Go.Proofs.YtbckmmodobennaaDoor
