/-
  The document's Right of modules: much, well, Right.
-/
import Derived.Test.YtkcljnfalimlgaaMoRightM
import Derived.Test.YtkcljnfalimlgaaInRef
namespace Go.Proofs.Ytkcljnfalimlgaa
open Go.RowKit
set_option linter.unusedVariables false
set_option maxRecDepth 100000

theorem any_not {α : Type} {f : α → Bool} {l : List α} (h : ∀ (j : Nat) (y : α), l[j]? = some y → f y = false) : l.any f = false :=
  List.any_eq_false.2 fun x hx => by obtain ⟨i, hi, rfl⟩ := List.getElem_of_mem hx; simp [h i _ (List.getElem?_eq_getElem hi)]
theorem any_yes {α : Type} {f : α → Bool} {l : List α} {k : Nat} {x : α} (hx : l[k]? = some x) (h : f x = true) : l.any f = true :=
  List.any_eq_true.2 ⟨x, List.mem_of_getElem? hx, h⟩

set_option maxHeartbeats 2000000 in
theorem much_calls {lo hi : Nat} {w : World} {s : Fin 5 → Option Addr × Nat × Nat} {x : Ac} (h : AcS lo hi w s x) :
    Calls Try.prog 34 #[acV s] w fun e w' => e = .returned (.bool (longA x)) ∧ Q0 w w' := by
  have HL := hide (longA_at h)
  obtain ⟨s0, s1, s2, s3, s4⟩ := h.small
  obtain ⟨a0, n0, c0, a1, n1, c1, a2, n2, c2, a3, n3, c3, a4, n4, c4, hv, h0, h1, h2, h3, h4, r0, r1⟩ := h.parts
  rw [hv]
  have HL := hide (show longA x = (decide (n0 > 4) || decide (n1 > 16) || decide (n2 > 8) || decide (n3 > 200) || decide (n4 > 8) || x.ts.any longT) by
    unfold longA; rw [h0.len, h1.len, h2.len, h3.len, h4.len])
  have s0 := h0.small
  have s1 := h1.small
  have s2 := h2.small
  have s3 := h3.small
  have s4 := h4.small
  have q1 : Q0 w (w.alloc (.cells #[.slice a0 n0 c0, .slice a1 n1 c1, .slice a2 n2 c2, .slice a3 n3 c3, .slice a4 n4 c4] 42)) := (Fr.refl _ w).alloc _
  have HT := hide (TbA.fr h4 q1 q0_no)
  clear h h0 h1 h2 h3 h4 hv
  go_enter Try.func34, Try.ntmps34
  go_wp2
  go_loop [3] (fun i => ∃ k : Nat, k ≤ n4 ∧ i = .int .i64 k ∧ ∀ (j : Nat) y, j < k → x.ts[j]? = some y → longT y = false) (fun i => n4 - (intOf i).toNat)
  case atStart => exact ⟨0, Nat.zero_le _, rfl, fun j y hj => absurd hj (by omega)⟩
  case round =>
    obtain ⟨k, hk, rfl, hall⟩ := hrel
    have Hall := hide hall
    clear hall
    by_cases hlt : k < n4
    · obtain ⟨b, off, a', n', c', cl, tm, rfl, _, _, hx, hp, _, e0, e1⟩ := TbA.get (unhide HT) hlt
      have hps := hp.small
      have HX := hide hx
      have HLT := hide (show longT (cl, tm) = decide (n' > 8) by unfold longT; rw [hp.len])
      clear hx hp
      by_cases hn : (n' : Int) > 8
      · have HE := hide (show longA x = true by rw [unhide HL, any_yes (unhide HX) (by rw [unhide HLT]; exact decide_eq_true (by omega))]; simp)
        go_wp2
        go_ret
        exact ⟨mret_bool (unhide HE).symm, q1⟩
      · have HN := hide (show longT (cl, tm) = false by rw [unhide HLT]; exact decide_eq_false (by omega))
        go_wp2
        go_round
        case rel =>
          refine ⟨k + 1, by omega, by go_num, fun j y hj hy => ?_⟩
          rcases Nat.lt_or_ge j k with h' | h'
          · exact unhide Hall j y h' hy
          · obtain rfl : j = k := by omega
            rw [unhide HX] at hy; cases hy; exact unhide HN
        case measure => simp [intOf]; omega
    · have HA := hide (show longA x = (decide (n0 > 4) || decide (n1 > 16) || decide (n2 > 8) || decide (n3 > 200) || decide (n4 > 8)) by
        rw [unhide HL, any_not (fun j y hy => unhide Hall j y (by have := (List.getElem?_eq_some_iff.1 hy).1; have := (unhide HT).len; omega) hy), Bool.or_false])
      by_cases g0 : (n0 : Int) > 4
      · have HR := hide (show longA x = true by rw [unhide HA]; simp; omega)
        go_wp2
        go_ret
        exact ⟨mret_bool (unhide HR).symm, q1⟩
      by_cases g1 : (n1 : Int) > 16
      · have HR := hide (show longA x = true by rw [unhide HA]; simp; omega)
        go_wp2
        go_ret
        exact ⟨mret_bool (unhide HR).symm, q1⟩
      by_cases g2 : (n2 : Int) > 8
      · have HR := hide (show longA x = true by rw [unhide HA]; simp; omega)
        go_wp2
        go_ret
        exact ⟨mret_bool (unhide HR).symm, q1⟩
      by_cases g3 : (n3 : Int) > 200
      · have HR := hide (show longA x = true by rw [unhide HA]; simp; omega)
        go_wp2
        go_ret
        exact ⟨mret_bool (unhide HR).symm, q1⟩
      have HR := hide (show longA x = decide ((8 : Int) < (n4 : Int)) by
        rw [unhide HA, decide_eq_false (by omega), decide_eq_false (by omega), decide_eq_false (by omega), decide_eq_false (by omega)]; simp only [Bool.false_or]; exact decide_eq_decide.2 (by omega))
      go_wp2
      go_ret
      exact ⟨mret_bool (unhide HR).symm, q1⟩

end Go.Proofs.Ytkcljnfalimlgaa
