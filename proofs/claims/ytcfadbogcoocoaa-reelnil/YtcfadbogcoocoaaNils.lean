/-
  ReelNil: for every item the law returns true, and nothing that was there is changed. No condition.
-/
import Derived.Test.YtcfadbogcoocoaaItems
import Derived.Test.YtcfadbogcoocoaaLives
namespace Go.Proofs.Ytcfadbogcoocoaa
open Go.RowKit
set_option linter.unusedVariables false

set_option maxHeartbeats 400000 in
theorem reserve_nil (n : Int) (w : World) : Calls Try.prog 43 #[.pointer none, .int .i64 n] w fun e w' => e = .returned (.bool false) ∧ w = w' := by
  go_enter Try.func43, Try.ntmps43
  go_wp2
  go_ret
  exact ⟨rfl, rfl⟩

set_option maxHeartbeats 400000 in
theorem fail_nil (n : Int) (w : World) : Calls Try.prog 47 #[.pointer none, .int .i64 n] w fun e w' => e = .returned (.tuple #[]) ∧ w = w' := by
  go_enter Try.func47, Try.ntmps47
  go_wp2
  go_end0
  exact ⟨rfl, rfl⟩

set_option maxHeartbeats 400000 in
theorem num_nil (n : Int) (h0 : 0 ≤ n) (h1 : n ≤ 18446744073709551615) (w : World) : Calls Try.prog 28 #[.pointer none, .int .u64 n] w fun e w' => e = .returned (.tuple #[]) ∧ w = w' := by
  go_enter Try.func28, Try.ntmps28
  go_wp2_with (first | (go_at_call 44; refine (numLen _ _ h0 h1).mono ?_; rintro e w' ⟨rfl, rfl⟩) | (go_at_call 43; refine (reserve_nil _ _).mono ?_; rintro e w' ⟨rfl, rfl⟩))
  go_end0
  exact ⟨rfl, rfl⟩

set_option maxHeartbeats 400000 in
theorem int_nil (n : Int) (h0 : -9223372036854775808 ≤ n) (h1 : n ≤ 9223372036854775807) (w : World) : Calls Try.prog 29 #[.pointer none, .int .i64 n] w fun e w' => e = .returned (.tuple #[]) ∧ w = w' := by
  have hz : (Lib.zigzag n : Int) ≤ 18446744073709551615 := by unfold Lib.zigzag; split <;> omega
  go_enter Try.func29, Try.ntmps29
  go_wp2_with (first | (go_at_call 46; refine (unsigned _ _ h0 h1).mono ?_; rintro e w' ⟨rfl, rfl⟩) | (go_at_call 28; refine (num_nil _ (by omega) hz _).mono ?_; rintro e w' ⟨rfl, rfl⟩))
  go_end0
  exact ⟨rfl, rfl⟩

set_option maxHeartbeats 400000 in
theorem byte_nil (n : Int) (w : World) : Calls Try.prog 30 #[.pointer none, .int .i64 n] w fun e w' => e = .returned (.tuple #[]) ∧ w = w' := by
  by_cases hb : n < 0 ∨ (¬ n < 0 ∧ 255 < n)
  · rcases hb with hb | ⟨hb, hc⟩
    all_goals
      go_enter Try.func30, Try.ntmps30
      go_wp2_with (first | (go_at_call 47; refine (fail_nil _ _).mono ?_; rintro e w' ⟨rfl, rfl⟩) | (go_at_call 43; refine (reserve_nil _ _).mono ?_; rintro e w' ⟨rfl, rfl⟩))
      exact bodyPost_ret (results_none rfl _ _ _) rfl ⟨rfl, rfl⟩
  · have h0 : 0 ≤ n := by omega
    have h1 : n ≤ 255 := by omega
    clear hb
    go_enter Try.func30, Try.ntmps30
    go_wp2_with (first | (go_at_call 47; refine (fail_nil _ _).mono ?_; rintro e w' ⟨rfl, rfl⟩) | (go_at_call 43; refine (reserve_nil _ _).mono ?_; rintro e w' ⟨rfl, rfl⟩))
    go_end0
    exact ⟨rfl, rfl⟩

set_option maxHeartbeats 400000 in
theorem text_nil (s : ByteArray) (hs : s.size ≤ 9223372036854775807) (w : World) : Calls Try.prog 31 #[.pointer none, .string s] w fun e w' => e = .returned (.tuple #[]) ∧ w = w' := by
  by_cases hb : (65535 : Int) < s.size
  · go_enter Try.func31, Try.ntmps31
    go_wp2_with (go_at_call 47; refine (fail_nil _ _).mono ?_; rintro e w' ⟨rfl, rfl⟩)
    exact bodyPost_ret (results_none rfl _ _ _) rfl ⟨rfl, rfl⟩
  · have hv := vb_le s.size (by omega)
    go_enter Try.func31, Try.ntmps31
    go_wp2_with (first | (go_at_call 44; refine (numLen _ _ (by omega) (by omega)).mono ?_; rintro e w' ⟨rfl, rfl⟩; rw [Int.toNat_natCast]) | (go_at_call 43; refine (reserve_nil _ _).mono ?_; rintro e w' ⟨rfl, rfl⟩))
    go_end0
    exact ⟨rfl, rfl⟩

set_option maxHeartbeats 1000000 in
theorem write_nil (x : It) (hx : x.Ok) (w : World) :
    Calls Try.prog 13 #[.pointer none, .agg x.val] w fun e w' => e = .returned (.tuple #[]) ∧ Below w.heap.size w w' := by
  obtain ⟨K, U, N, S⟩ := x
  obtain ⟨hk0, hk1, hu0, hu1, hn0, hn1, hs⟩ := hx
  simp only [It.val]
  simp only at hk0 hk1 hu0 hu1 hn0 hn1 hs
  have hc : K % 4 = 0 ∨ K % 4 = 1 ∨ K % 4 = 2 ∨ K % 4 = 3 := by omega
  have hB : ∀ o1 o2, Below w.heap.size w ((w.alloc o1).alloc o2) := fun o1 o2 => ((Below.refl _ _).alloc (Nat.le_refl _) o1).alloc (by simp) o2
  rcases hc with hc | hc | hc | hc
  · have hk0' : (K % 4 == 0) = true := beq_iff_eq.2 hc
    clear hc
    go_enter Try.func13, Try.ntmps13
    go_wp2_with (first | (go_at_call 23; refine (kind_calls K U N S hk0 hk1 _).mono ?_; rintro e w' ⟨rfl, rfl⟩) | (go_at_call 28; refine (num_nil _ hu0 hu1 _).mono ?_; rintro e w' ⟨rfl, rfl⟩))
    go_end0
    exact ⟨rfl, hB _ _⟩
  · have hk0' : (K % 4 == 0) = false := beq_eq_false_iff_ne.2 (by omega)
    have hk1' : (K % 4 == 1) = true := beq_iff_eq.2 hc
    clear hc
    go_enter Try.func13, Try.ntmps13
    go_wp2_with (first | (go_at_call 23; refine (kind_calls K U N S hk0 hk1 _).mono ?_; rintro e w' ⟨rfl, rfl⟩) | (go_at_call 29; refine (int_nil _ hn0 hn1 _).mono ?_; rintro e w' ⟨rfl, rfl⟩))
    go_end0
    exact ⟨rfl, hB _ _⟩
  · have hk0' : (K % 4 == 0) = false := beq_eq_false_iff_ne.2 (by omega)
    have hk1' : (K % 4 == 1) = false := beq_eq_false_iff_ne.2 (by omega)
    have hk2' : (K % 4 == 2) = true := beq_iff_eq.2 hc
    clear hc
    go_enter Try.func13, Try.ntmps13
    go_wp2_with (first | (go_at_call 23; refine (kind_calls K U N S hk0 hk1 _).mono ?_; rintro e w' ⟨rfl, rfl⟩) | (go_at_call 30; refine (byte_nil _ _).mono ?_; rintro e w' ⟨rfl, rfl⟩))
    go_end0
    exact ⟨rfl, hB _ _⟩
  · have hk0' : (K % 4 == 0) = false := beq_eq_false_iff_ne.2 (by omega)
    have hk1' : (K % 4 == 1) = false := beq_eq_false_iff_ne.2 (by omega)
    have hk2' : (K % 4 == 2) = false := beq_eq_false_iff_ne.2 (by omega)
    have hk3' : (K % 4 == 3) = true := beq_iff_eq.2 hc
    clear hc
    go_enter Try.func13, Try.ntmps13
    go_wp2_with (first | (go_at_call 23; refine (kind_calls K U N S hk0 hk1 _).mono ?_; rintro e w' ⟨rfl, rfl⟩) | (go_at_call 31; refine (text_nil _ hs _).mono ?_; rintro e w' ⟨rfl, rfl⟩))
    go_end0
    exact ⟨rfl, hB _ _⟩

set_option maxHeartbeats 1000000 in
theorem nil_walk (x : It) (hx : x.Ok) (w : World) :
    Calls Try.prog 8 #[.agg x.val] w fun e w' => e = .returned (.bool true) ∧ Below w.heap.size w w' := by
  have hv : x.val = #[.int .i64 x.K, .int .u64 x.U, .int .i64 x.N, .string x.S] := rfl
  have hwr := hide (write_nil x hx)
  rw [hv] at *
  clear hv
  go_enter Try.func8, Try.ntmps8
  go_wp2_with fail
  refine (lives_calls _).mono ?_
  rintro e w1 ⟨rfl, B1⟩
  have hb1 := (B1.block w.heap.size (by simp)).trans (blk_new w _)
  have c0 := cell_at hb1 0
  have c1 := cell_at hb1 1
  have c2 := cell_at hb1 2
  have c3 := cell_at hb1 3
  simp at c0 c1 c2 c3
  clear hb1
  go_wp2_with fail
  refine ((unhide hwr) _).mono ?_
  rintro e w2 ⟨rfl, B2⟩
  have hB : Below w.heap.size w w2 := (((Below.refl _ _).alloc (Nat.le_refl _) _).trans (B1.mono (by simp))).trans (B2.mono (by have := B1.size; simp at this; omega))
  clear B1 B2 c0 c1 c2 c3
  go_wp2_with (first | (go_at_call 30; refine (byte_nil _ _).mono ?_; rintro e w' ⟨rfl, rfl⟩) | go_in)
  go_ret
  exact ⟨rfl, hB⟩
end Go.Proofs.Ytcfadbogcoocoaa
