/-
  A slice of types that came in; All, and the document's Right, Actor, All: they answer as the plain functions say; nothing is touched.
-/
import Derived.Test.YthdpgachdegcgaaKnCalls
namespace Go.Proofs.Ythdpgachdegcgaa
open Go.RowKit
set_option linter.unusedVariables false
set_option maxRecDepth 8192

/-- the slice's numbers lie in memory -/
structure Row (w : World) (a : Option Addr) (n : Nat) (X : Nat → Int) : Prop where
  small : n ≤ 9223372036854775807
  at' : n = 0 ∨ ∃ b off, a = some ⟨b, off, none⟩ ∧ b < w.heap.size ∧ ∀ i, i < n → (-9223372036854775808 ≤ X i ∧ X i ≤ 9223372036854775807) ∧ w.cell? ⟨b, off + i, none⟩ = some (.int .i64 (X i))

theorem Row.get {w : World} {a : Option Addr} {n : Nat} {X : Nat → Int} (h : Row w a n X) {i : Nat} (hi : i < n) : ∃ b off, a = some ⟨b, off, none⟩ ∧ b < w.heap.size ∧ (-9223372036854775808 ≤ X i ∧ X i ≤ 9223372036854775807) ∧ w.cell? ⟨b, off + i, none⟩ = some (.int .i64 (X i)) := by
  rcases h.at' with h0 | ⟨b, off, rfl, hlt, hc⟩
  · omega
  · exact ⟨b, off, rfl, hlt, hc i hi⟩

theorem Row.below {w w' : World} {a : Option Addr} {n : Nat} {X : Nat → Int} (h : Row w a n X) (hb : Below w.heap.size w w') : Row w' a n X := by
  refine ⟨h.small, ?_⟩
  rcases h.at' with h0 | ⟨b, off, rfl, hlt, hc⟩
  · exact .inl h0
  · exact .inr ⟨b, off, rfl, Nat.lt_of_lt_of_le hlt hb.size, fun i hi => ⟨(hc i hi).1, (hb.cell (by exact hlt)).trans (hc i hi).2⟩⟩

theorem Row.drewN {w : World} {a : Option Addr} {n : Nat} {X : Nat → Int} (h : Row w a n X) (k : Nat) : Row (w.drewN k) a n X := ⟨h.small, h.at'⟩

def allX (X : Nat → Int) (n : Nat) (m : Int) : Bool := (List.range n).all fun i => krightB (X i) m

theorem all_yes {X : Nat → Int} {n : Nat} {m : Int} (h : ∀ i, i < n → krightB (X i) m = true) : allX X n m = true := by
  unfold allX; simp [List.all_eq_true]; exact h
theorem all_no {X : Nat → Int} {n : Nat} {m : Int} {k : Nat} (hk : k < n) (h : krightB (X k) m = false) : allX X n m = false := by
  unfold allX; rw [List.all_eq_false]; exact ⟨k, by simp [hk], by simp [h]⟩

set_option maxHeartbeats 1000000 in
theorem all_calls (a : Option Addr) (n cap : Nat) (X : Nat → Int) (m : Int) (w : World) (hR : Row w a n X) :
    Calls Try.prog 95 #[.slice a n cap, .int .i64 m] w fun e w' => e = .returned (.bool (allX X n m)) ∧ w = w' := by
  have hs := hR.small
  go_enter Try.func95, Try.ntmps95
  go_wp2
  go_loop [9] (fun i => ∃ k : Nat, k ≤ n ∧ i = .int .i64 k ∧ ∀ j, j < k → krightB (X j) m = true) (fun i => n - (intOf i).toNat)
  case atStart => exact ⟨0, Nat.zero_le _, rfl, fun j hj => absurd hj (by omega)⟩
  case round =>
    obtain ⟨k, hk, rfl, hall⟩ := hrel
    have Hall := hide hall
    clear hall
    by_cases hlt : k < n
    · obtain ⟨b, off, rfl, _, _, hc⟩ := hR.get hlt
      cases hr : krightB (X k) m
      · have Hr := hide hr
        clear hr
        go_wp2_with (go_at_call 103; refine (kright_calls _ _ _).mono ?_; rintro e w' ⟨rfl, rfl⟩; rw [unhide Hr])
        go_ret
        exact ⟨ret_bool (all_no hlt (unhide Hr)).symm, rfl⟩
      · have Hr := hide hr
        clear hr
        go_wp2_with (go_at_call 103; refine (kright_calls _ _ _).mono ?_; rintro e w' ⟨rfl, rfl⟩; rw [unhide Hr])
        go_round
        case rel => exact ⟨k + 1, by omega, by go_num, fun j hj => by rcases Nat.lt_or_ge j k with h | h; exact unhide Hall j h; rw [show j = k by omega]; exact unhide Hr⟩
        case measure => simp [intOf]; omega
    · have : k = n := by omega
      have HA := hide (all_yes (m := m) (this ▸ unhide Hall))
      clear this
      go_wp2
      go_ret
      exact ⟨ret_bool (unhide HA).symm, rfl⟩

set_option maxHeartbeats 1000000 in
theorem refRight_calls (t m : Int) (w : World) : Calls Try.prog 82 #[.int .i64 t, .int .i64 m] w fun e w' => e = .returned (.bool (krightB t m)) ∧ w = w' := by
  by_cases h1 : t = 1
  · subst h1
    go_enter Try.func82, Try.ntmps82
    go_wp2
    go_ret
    exact ⟨rfl, rfl⟩
  by_cases h2 : t = 2
  · subst h2
    go_enter Try.func82, Try.ntmps82
    go_wp2
    go_ret
    exact ⟨rfl, rfl⟩
  have b1 : (t == 1) = false := beq_eq_false_iff_ne.2 h1
  have b2 : (t == 2) = false := beq_eq_false_iff_ne.2 h2
  have H1 := hide h1
  have H2 := hide h2
  clear h1 h2
  go_enter Try.func82, Try.ntmps82
  go_wp2
  go_loop [5] (fun i => ∃ k : Nat, k ≤ 8 ∧ i = .int .i64 k ∧ ((k : Int) ≤ m ∨ k = 0) ∧ ∀ j : Nat, j < k → t ≠ 16 + j) (fun i => 8 - (intOf i).toNat)
  case atStart => exact ⟨0, Nat.zero_le _, rfl, .inr rfl, fun j hj => absurd hj (by omega)⟩
  case round =>
    obtain ⟨k, hk, rfl, hm, hall⟩ := hrel
    have Hall := hide hall
    have Hm := hide hm
    clear hall hm
    by_cases hlt : (k : Int) < m
    · by_cases h8 : (k : Int) < 8
      · by_cases ht : t = 16 + (k : Int)
        · have HA : Hid (krightB t m = true) := hide (by unfold krightB; simp; omega)
          have hb : (t == 16 + (k : Int)) = true := beq_iff_eq.2 ht
          have Ht := hide ht
          clear ht
          go_wp2
          go_ret
          exact ⟨ret_bool (unhide HA).symm, rfl⟩
        · have hb : (t == 16 + (k : Int)) = false := beq_eq_false_iff_ne.2 ht
          have Ht := hide ht
          clear ht
          go_wp2
          go_round
          case rel => exact ⟨k + 1, by omega, by go_num, .inl (by omega), fun j hj => by rcases Nat.lt_or_ge j k with h | h; exact unhide Hall j h; rw [show j = k by omega]; exact unhide Ht⟩
          case measure => simp [intOf]; omega
      · have HA : Hid (krightB t m = false) := hide (by
          have h1 := unhide H1
          have h2 := unhide H2
          unfold krightB; simp only [decide_eq_false_iff_not]; rintro (h | h | ⟨h, h', h''⟩)
          · exact h1 h
          · exact h2 h
          · exact unhide Hall (t - 16).toNat (by omega) (by omega))
        go_wp2
        go_ret
        exact ⟨ret_bool (unhide HA).symm, rfl⟩
    · have HA : Hid (krightB t m = false) := hide (by
          have h1 := unhide H1
          have h2 := unhide H2
          have hm := unhide Hm
          unfold krightB; simp only [decide_eq_false_iff_not]; rintro (h | h | ⟨h, h', h''⟩)
          · exact h1 h
          · exact h2 h
          · exact unhide Hall (t - 16).toNat (by omega) (by omega))
      go_wp2
      go_ret
      exact ⟨ret_bool (unhide HA).symm, rfl⟩

set_option maxHeartbeats 1000000 in
theorem refAll_calls (a : Option Addr) (n cap : Nat) (X : Nat → Int) (m : Int) (w : World) (hR : Row w a n X) :
    Calls Try.prog 62 #[.slice a n cap, .int .i64 m] w fun e w' => e = .returned (.bool (allX X n m)) ∧ w = w' := by
  have hs := hR.small
  go_enter Try.func62, Try.ntmps62
  go_wp2
  go_loop [5] (fun i => ∃ k : Nat, k ≤ n ∧ i = .int .i64 k ∧ ∀ j, j < k → krightB (X j) m = true) (fun i => n - (intOf i).toNat)
  case atStart => exact ⟨0, Nat.zero_le _, rfl, fun j hj => absurd hj (by omega)⟩
  case round =>
    obtain ⟨k, hk, rfl, hall⟩ := hrel
    have Hall := hide hall
    clear hall
    by_cases hlt : k < n
    · obtain ⟨b, off, rfl, _, _, hc⟩ := hR.get hlt
      cases hr : krightB (X k) m
      · have Hr := hide hr
        clear hr
        go_wp2_with (go_at_call 82; refine (refRight_calls _ _ _).mono ?_; rintro e w' ⟨rfl, rfl⟩; rw [unhide Hr])
        go_ret
        exact ⟨ret_bool (all_no hlt (unhide Hr)).symm, rfl⟩
      · have Hr := hide hr
        clear hr
        go_wp2_with (go_at_call 82; refine (refRight_calls _ _ _).mono ?_; rintro e w' ⟨rfl, rfl⟩; rw [unhide Hr])
        go_round
        case rel => exact ⟨k + 1, by omega, by go_num, fun j hj => by rcases Nat.lt_or_ge j k with h | h; exact unhide Hall j h; rw [show j = k by omega]; exact unhide Hr⟩
        case measure => simp [intOf]; omega
    · have : k = n := by omega
      have HA := hide (all_yes (m := m) (this ▸ unhide Hall))
      clear this
      go_wp2
      go_ret
      exact ⟨ret_bool (unhide HA).symm, rfl⟩

end Go.Proofs.Ythdpgachdegcgaa
