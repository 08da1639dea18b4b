/-
  The document's Same of modules: the lists are equal just if they are place by place.
-/
import Derived.Test.YtkcljnfalimlgaaMoSame
import Derived.Deep.RegionHeld3
import Derived.Deep.RegionWith
namespace Go.Proofs.Ytkcljnfalimlgaa
open Go.RowKit
set_option linter.unusedVariables false
set_option maxRecDepth 8192

theorem tb_same {cl cl' : List (Int × Int)} {tm tm' : Int} : (cl, tm) = (cl', tm') ↔ tm = tm' ∧ cl = cl' := by simp [and_comm]

set_option maxHeartbeats 2000000 in
theorem xsameTables_calls {lo hi lo' hi' : Nat} {w : World} {a a' : Option Addr} {n n' : Nat} {l l' : List (List (Int × Int) × Int)} (h : TbA lo hi w a n l) (h' : TbA lo' hi' w a' n' l') (c c' : Nat) :
    Calls Try.prog 47 #[.slice a n c, .slice a' n' c'] w fun e w' => e = .returned (.bool (decide (l = l'))) ∧ ∃ q, w' = w.drewN q := by
  have hs := h.small
  have hs' := h'.small
  have hl := h.len
  have hl' := h'.len
  by_cases hnm : n = n'
  · subst hnm
    have hb : ((n : Int) != (n : Int)) = false := by simp
    have HL := hide hl
    have HL' := hide hl'
    clear hl hl'
    go_enter Try.func47, Try.ntmps47
    go_wp2
    go_loopw [5] (fun i w' => ∃ k q : Nat, k ≤ n ∧ i = .int .i64 k ∧ l.take k = l'.take k ∧ w' = w.drewN q) (fun i w' => n - (intOf i).toNat)
    case atStart => exact ⟨0, 0, Nat.zero_le _, rfl, rfl, rfl⟩
    case round =>
      obtain ⟨k, q, hk, rfl, hall, rfl⟩ := hrel
      have Hall := hide hall
      clear hall
      by_cases hlt : k < n
      · obtain ⟨b1, o1, a1, n1, c1, cl, tm, rfl, _, _, hx1, hp1, _, e1, e2⟩ := TbA.get h hlt
        obtain ⟨b2, o2, a2, n2, c2, cl', tm', rfl, _, _, hx2, hp2, _, d1, d2⟩ := TbA.get h' hlt
        have hlt' : (k : Int) < (n : Int) := by omega
        have HS := hide (take_step (unhide Hall) hx1 hx2)
        have HX1 := hide hx1
        have HX2 := hide hx2
        have HNE := hide (show (cl, tm) ≠ (cl', tm') → decide (l = l') = false from fun hp => decide_eq_false (fun e => by subst e; have := (unhide HX1).symm.trans (unhide HX2); exact hp (Option.some.inj this)))
        have m1 := hp1.small
        have m2 := hp2.small
        have HP1 := hide hp1
        have HP2 := hide hp2
        clear hx1 hx2 hp1 hp2
        by_cases htm : tm = tm'
        · subst htm
          have hb2 : (tm != tm) = false := by simp
          by_cases hnn : n1 = n2
          · subst hnn
            have hb3 : ((n1 : Int) != (n1 : Int)) = false := by simp
            go_wp2
            go_quiet (fail)
            go_wp2
            go_loopw [6] (fun i w' => ∃ k q : Nat, k ≤ n1 ∧ i = .int .i64 k ∧ cl.take k = cl'.take k ∧ w' = w.drewN q) (fun i w' => n1 - (intOf i).toNat)
            case atStart => exact ⟨0, _, Nat.zero_le _, rfl, rfl, World.drewN_drewN _ _ _⟩
            case round =>
              obtain ⟨i, q3, hi, rfl, hall2, rfl⟩ := hrel
              have Hall2 := hide hall2
              clear hall2
              by_cases hlt2 : i < n1
              · obtain ⟨b3, o3, p1, q1, rfl, _, _, hy1, _, _, f1, f2⟩ := PrA.get (unhide HP1) hlt2
                obtain ⟨b4, o4, p2, q2, rfl, _, _, hy2, _, _, g1, g2⟩ := PrA.get (unhide HP2) hlt2
                have hlt3 : (i : Int) < (n1 : Int) := by omega
                have HS2 := hide (take_step (unhide Hall2) hy1 hy2)
                have HY1 := hide hy1
                have HY2 := hide hy2
                clear hy1 hy2
                by_cases hp : p1 = p2
                · by_cases hq : q1 = q2
                  · subst hp; subst hq
                    have hb4 : (p1 == p1) = true := by simp
                    have hb5 : (q1 == q1) = true := by simp
                    go_wp2
                    go_quiet (fail)
                    go_wp2
                    go_roundw
                    case rel => exact ⟨i + 1, _, by omega, by go_num, unhide HS2 (by first | trivial | rfl), rfl⟩
                    case measure => simp [intOf]; omega
                  · subst hp
                    have HE := hide (unhide HNE (fun e => by simp at e; subst e; have := (unhide HY1).symm.trans (unhide HY2); simp at this; exact hq this))
                    have hb4 : (p1 == p1) = true := by simp
                    have hb5 : (q1 == q2) = false := by simp [hq]
                    clear hq
                    go_wp2
                    go_quiet (fail)
                    go_wp2
                    go_ret
                    exact ⟨mret_bool (unhide HE).symm, _, World.drewN_drewN _ _ _⟩
                · have HE := hide (unhide HNE (fun e => by simp at e; subst e; have := (unhide HY1).symm.trans (unhide HY2); simp at this; exact hp this.1))
                  have hb4 : (p1 == p2) = false := by simp [hp]
                  clear hp
                  go_wp2
                  go_quiet (fail)
                  go_wp2
                  go_ret
                  exact ⟨mret_bool (unhide HE).symm, _, World.drewN_drewN _ _ _⟩
              · have HA := hide (show cl = cl' by
                  have e := unhide Hall2
                  rwa [List.take_of_length_le (by rw [(unhide HP1).len]; omega), List.take_of_length_le (by rw [(unhide HP2).len]; omega)] at e)
                go_wp2
                go_roundw
                case rel => exact ⟨k + 1, _, by omega, by go_num, unhide HS (by rw [unhide HA]), rfl⟩
                case measure => simp [intOf]; omega
          · have hb3 : ((n1 : Int) != (n2 : Int)) = true := by rw [bne_iff_ne]; omega
            have HE := hide (unhide HNE (fun e => by simp at e; subst e; exact hnn ((unhide HP1).len.symm.trans (unhide HP2).len)))
            clear hnn
            go_wp2
            go_quiet (fail)
            go_wp2
            go_ret
            exact ⟨mret_bool (unhide HE).symm, _, World.drewN_drewN _ _ _⟩
        · have hb2 : (tm != tm') = true := by simp [htm]
          have HE := hide (unhide HNE (fun e => by simp at e; exact htm e.2))
          clear htm
          go_wp2
          go_quiet (fail)
          go_wp2
          go_ret
          exact ⟨mret_bool (unhide HE).symm, _, World.drewN_drewN _ _ _⟩
      · have HA := hide (show decide (l = l') = true from decide_eq_true (by
          have e := unhide Hall
          rwa [List.take_of_length_le (by rw [unhide HL]; omega), List.take_of_length_le (by rw [unhide HL']; omega)] at e))
        go_wp2
        go_ret
        exact ⟨mret_bool (unhide HA).symm, _, rfl⟩
  · have hb : ((n : Int) != (n' : Int)) = true := by rw [bne_iff_ne]; omega
    have HA := hide (show decide (l = l') = false from decide_eq_false (fun e => hnm (by rw [← hl, ← hl', e])))
    clear hnm hl hl'
    go_enter Try.func47, Try.ntmps47
    go_wp2
    go_ret
    exact ⟨mret_bool (unhide HA).symm, 0, rfl⟩

end Go.Proofs.Ytkcljnfalimlgaa
