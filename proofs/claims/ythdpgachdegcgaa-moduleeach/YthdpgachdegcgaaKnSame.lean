/-
  Same, and the document's Same: two lists are the same just if they are place by place; nothing is touched.
-/
import Derived.Test.YthdpgachdegcgaaKnRow
import Derived.Deep.QuietTactic
import Derived.BigQuiet
namespace Go.Proofs.Ythdpgachdegcgaa
open Go.RowKit
set_option linter.unusedVariables false
set_option maxRecDepth 8192

def sameX (X : Nat → Int) (n : Nat) (Y : Nat → Int) (m : Nat) : Bool := decide (n = m ∧ ∀ i, i < n → X i = Y i)

theorem same_no {X Y : Nat → Int} {n : Nat} {k : Nat} (hk : k < n) (h : X k ≠ Y k) : sameX X n Y n = false := by
  unfold sameX; simp only [decide_eq_false_iff_not]; rintro ⟨_, h'⟩; exact h (h' k hk)

set_option maxHeartbeats 1000000 in
theorem equal_calls (a : Option Addr) (n c : Nat) (X : Nat → Int) (b : Option Addr) (m d : Nat) (Y : Nat → Int) (w : World) (hX : Row w a n X) (hY : Row w b m Y) :
    Calls Try.prog 68 #[.slice a n c, .slice b m d] w fun e w' => e = .returned (.bool (sameX X n Y m)) ∧ ∃ q, w' = w.drewN q := by
  have hs := hX.small
  have hs' := hY.small
  by_cases hnm : n = m
  · subst hnm
    have hb : ((n : Int) != (n : Int)) = false := by simp
    go_enter Try.func68, Try.ntmps68
    go_wp2
    go_loopw [13] (fun i w' => ∃ k q : Nat, k ≤ n ∧ i = .int .i64 k ∧ (∀ j, j < k → X j = Y j) ∧ w' = w.drewN q) (fun i w' => n - (intOf i).toNat)
    case atStart => exact ⟨0, 0, Nat.zero_le _, rfl, fun j hj => absurd hj (by omega), rfl⟩
    case round =>
      obtain ⟨k, q, hk, rfl, hall, rfl⟩ := hrel
      have Hall := hide hall
      clear hall
      by_cases hlt : k < n
      · obtain ⟨b1, o1, rfl, _, _, hc1⟩ := hX.get hlt
        obtain ⟨b2, o2, rfl, _, _, hc2⟩ := hY.get hlt
        have hlt' : (k : Int) < (n : Int) := by omega
        by_cases he : X k = Y k
        · have hb2 : (X k != Y k) = false := by simp [he]
          have He := hide he
          clear he
          go_wp2
          go_quiet (fail)
          go_wp2
          go_roundw
          case rel => exact ⟨k + 1, _, by omega, by go_num, fun j hj => by rcases Nat.lt_or_ge j k with h | h; exact unhide Hall j h; rw [show j = k by omega]; exact unhide He, rfl⟩
          case measure => simp [intOf]; omega
        · have hb2 : (X k != Y k) = true := by simp [he]
          have He := hide (same_no hlt he)
          clear he
          go_wp2
          go_quiet (fail)
          go_wp2
          go_ret
          exact ⟨ret_bool (unhide He).symm, _, World.drewN_drewN _ _ _⟩
      · have : k = n := by omega
        have HA : Hid (sameX X n Y n = true) := hide (by unfold sameX; simp; exact this ▸ unhide Hall)
        clear this
        go_wp2
        go_ret
        exact ⟨ret_bool (unhide HA).symm, _, rfl⟩
  · have hb : ((n : Int) != (m : Int)) = true := by rw [bne_iff_ne]; omega
    have HA : Hid (sameX X n Y m = false) := hide (by unfold sameX; simp [hnm])
    clear hnm
    go_enter Try.func68, Try.ntmps68
    go_wp2
    go_ret
    exact ⟨ret_bool (unhide HA).symm, 0, rfl⟩

set_option maxHeartbeats 1000000 in
theorem refSame_calls (a : Option Addr) (n c : Nat) (X : Nat → Int) (b : Option Addr) (m d : Nat) (Y : Nat → Int) (w : World) (hX : Row w a n X) (hY : Row w b m Y) :
    Calls Try.prog 23 #[.slice a n c, .slice b m d] w fun e w' => e = .returned (.bool (sameX X n Y m)) ∧ ∃ q, w' = w.drewN q := by
  have hs := hX.small
  have hs' := hY.small
  by_cases hnm : n = m
  · subst hnm
    have hb : ((n : Int) != (n : Int)) = false := by simp
    go_enter Try.func23, Try.ntmps23
    go_wp2
    go_loopw [5] (fun i w' => ∃ k q : Nat, k ≤ n ∧ i = .int .i64 k ∧ (∀ j, j < k → X j = Y j) ∧ w' = w.drewN q) (fun i w' => n - (intOf i).toNat)
    case atStart => exact ⟨0, 0, Nat.zero_le _, rfl, fun j hj => absurd hj (by omega), rfl⟩
    case round =>
      obtain ⟨k, q, hk, rfl, hall, rfl⟩ := hrel
      have Hall := hide hall
      clear hall
      by_cases hlt : k < n
      · obtain ⟨b1, o1, rfl, _, _, hc1⟩ := hX.get hlt
        obtain ⟨b2, o2, rfl, _, _, hc2⟩ := hY.get hlt
        have hlt' : (k : Int) < (n : Int) := by omega
        by_cases he : X k = Y k
        · have hb2 : (X k != Y k) = false := by simp [he]
          have He := hide he
          clear he
          go_wp2
          go_quiet (fail)
          go_wp2
          go_roundw
          case rel => exact ⟨k + 1, _, by omega, by go_num, fun j hj => by rcases Nat.lt_or_ge j k with h | h; exact unhide Hall j h; rw [show j = k by omega]; exact unhide He, rfl⟩
          case measure => simp [intOf]; omega
        · have hb2 : (X k != Y k) = true := by simp [he]
          have He := hide (same_no hlt he)
          clear he
          go_wp2
          go_quiet (fail)
          go_wp2
          go_ret
          exact ⟨ret_bool (unhide He).symm, _, World.drewN_drewN _ _ _⟩
      · have : k = n := by omega
        have HA : Hid (sameX X n Y n = true) := hide (by unfold sameX; simp; exact this ▸ unhide Hall)
        clear this
        go_wp2
        go_ret
        exact ⟨ret_bool (unhide HA).symm, _, rfl⟩
  · have hb : ((n : Int) != (m : Int)) = true := by rw [bne_iff_ne]; omega
    have HA : Hid (sameX X n Y m = false) := hide (by unfold sameX; simp [hnm])
    clear hnm
    go_enter Try.func23, Try.ntmps23
    go_wp2
    go_ret
    exact ⟨ret_bool (unhide HA).symm, 0, rfl⟩

set_option maxHeartbeats 1000000 in
theorem same_calls (a : Option Addr) (n c : Nat) (X : Nat → Int) (b : Option Addr) (m d : Nat) (Y : Nat → Int) (w : World) (hX : Row w a n X) (hY : Row w b m Y) :
    Calls Try.prog 45 #[.slice a n c, .slice b m d] w fun e w' => e = .returned (.bool (sameX X n Y m)) ∧ ∃ q, w' = w.drewN q := by
  go_enter Try.func45, Try.ntmps45
  go_wp2_with (go_at_call 68; refine (equal_calls _ _ _ _ _ _ _ _ _ hX hY).mono ?_; rintro e w' ⟨rfl, q, rfl⟩)
  go_ret
  exact ⟨rfl, q, rfl⟩

end Go.Proofs.Ythdpgachdegcgaa
