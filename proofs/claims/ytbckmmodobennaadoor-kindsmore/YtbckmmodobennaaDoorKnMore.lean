/-
  KindsMore: for every list and two numbers the law returns true, and nothing is touched.
-/
import Derived.Test.YtbckmmodobennaaDoorKnRow
import Derived.Test.YtbckmmodobennaaDoorKnLives
import Derived.Deep.QuietTactic
import Derived.BigQuiet
namespace Go.Proofs.YtbckmmodobennaaDoor
open Go.RowKit
set_option linter.unusedVariables false

theorem mod9 (u : Int) : 0 ≤ wrap64 ((IntKind.u64.wrap u).tmod 9) ∧ wrap64 ((IntKind.u64.wrap u).tmod 9) ≤ 8 := by
  rw [IntKind.wrap_u64, Int.tmod_eq_emod_of_nonneg (by omega)]
  unfold wrap64
  omega
theorem sum9 {N M : Int} (h0 : 0 ≤ N) (h1 : N ≤ 8) (h2 : 0 ≤ M) (h3 : M ≤ 8) : N ≤ wrap64 (N + M) ∧ wrap64 (N + M) ≤ 16 := by
  unfold wrap64; omega

theorem right_more {t N K : Int} (h : rightB t N = true) (hK : N ≤ K) : rightB t K = true := by
  unfold rightB at *; simp at *; omega
theorem nameL_nil (t : Int) : nameL t = [] ↔ ¬ (t = 1 ∨ t = 2 ∨ (16 ≤ t ∧ t < 24 ∧ t - 16 < 8)) := by
  unfold nameL
  split
  · simp [*]
  · split
    · simp [*]
    · split
      · rename_i h; exact ⟨fun e => by simp at e, fun e => by omega⟩
      · rename_i h1 h2 h; exact ⟨fun _ => by omega, fun _ => rfl⟩
theorem name_right (t : Int) : ((nameS t).toList != []) = rightB t 8 := by
  rw [ByteArray.toList_eq, Bool.eq_iff_iff, bne_iff_ne]
  show (nameL t ≠ []) ↔ _
  unfold rightB
  rw [decide_eq_true_eq, Ne, nameL_nil, Decidable.not_not]

theorem name_empty (t : Int) : (nameS t).toList.isEmpty = !rightB t 8 := by
  rw [← name_right t]; cases (nameS t).toList <;> rfl

theorem quiet_same {P : Program} {f : FuncId} {args : Array Value} {w : World} {n : Nat} {v : Value}
    (h : Calls P f args (w.drewN n) fun e w' => e = .returned v ∧ w.drewN n = w') : Calls P f args (w.drewN n) fun e w'' => e = .returned v ∧ ∃ m, w'' = w.drewN m :=
  h.mono fun _ _ ⟨he, hm⟩ => ⟨he, n, hm.symm⟩

theorem all_step {X : Nat → Int} {k : Nat} {m : Int} : allX X (k + 1) m = (allX X k m && rightB (X k) m) := by
  unfold allX; simp [List.range_succ]

theorem right_val {t n : Int} {b : Bool} (h : rightB t n = b) (w : World) : Calls Tryd.prog 12 #[.int .i64 t, .int .i64 n] w fun e w' => e = .returned (.bool b) ∧ w = w' := by
  subst h; exact right_calls t n w

theorem all_val {a : Option Addr} {n cap : Nat} {X : Nat → Int} {m : Int} {b : Bool} {w : World} (h : allX X n m = b) (hR : Row w a n X) :
    Calls Tryd.prog 14 #[.slice a n cap, .int .i64 m] w fun e w' => e = .returned (.bool b) ∧ w = w' := by
  subst h; exact all_calls a n cap X m w hR

theorem more_all {X : Nat → Int} {n : Nat} {N K : Int} (hK : N ≤ K) : allX X n N = true → allX X n K = true := by
  intro h
  unfold allX at *
  rw [List.all_eq_true] at *
  exact fun i hi => right_more (h i hi) hK

set_option maxHeartbeats 4000000 in
theorem more_law (a : Option Addr) (n c : Nat) (X : Nat → Int) (u v : Int) (w : World) (hX : Row w a n X) :
    Calls Tryd.prog 8 #[.slice a n c, .int .i64 u, .int .i64 v] w fun e w' => e = .returned (.bool true) ∧ ∃ q, w' = w.drewN q := by
  have hs := hX.small
  have hN := mod9 u
  have hM := mod9 v
  have hK := sum9 hN.1 hN.2 hM.1 hM.2
  have HN := hide hN
  have HK := hide hK
  clear hN hM hK
  go_enter Tryd.func8, Tryd.ntmps8
  go_wp2_with (first
    | (go_at_call 9; refine (lives_calls _).mono ?_; rintro e w' ⟨rfl, rfl⟩))
  generalize wrap64 (wrap64 ((IntKind.u64.wrap u).tmod 9) + wrap64 ((IntKind.u64.wrap v).tmod 9)) = K at *
  generalize wrap64 ((IntKind.u64.wrap u).tmod 9) = N at *
  obtain ⟨hN0, hN1⟩ := unhide HN
  obtain ⟨hK0, hK1⟩ := unhide HK
  clear HN HK
  go_loopw [8, 9] (fun al i w' => ∃ k q : Nat, k ≤ n ∧ al = .bool (allX X k N) ∧ i = .int .i64 k ∧ w' = w.drewN q) (fun al i w' => n - (intOf i).toNat)
  case atStart => exact ⟨0, 0, Nat.zero_le _, rfl, rfl, rfl⟩
  case round =>
    obtain ⟨k, q, hk, rfl, rfl, hw⟩ := hrel
    have hX1 : Row wr a n X := hw ▸ hX.drewN q
    have Hw := hide hw
    clear hw
    by_cases hlt : k < n
    · obtain ⟨b1, o1, rfl, _, _, hc1⟩ := hX1.get hlt
      have hlt' : (k : Int) < (n : Int) := by omega
      have hcase : (rightB (X k) N = false ∧ rightB (X k) 8 = false ∧ rightB (X k) K = rightB (X k) K) ∨ (rightB (X k) N = false ∧ rightB (X k) 8 = true ∧ rightB (X k) K = rightB (X k) K) ∨ (rightB (X k) N = true ∧ rightB (X k) 8 = true ∧ rightB (X k) K = true) := by
        cases hr : rightB (X k) N
        · cases hr8 : rightB (X k) 8 <;> simp
        · exact .inr (.inr ⟨rfl, right_more hr hN1, right_more hr hK0⟩)
      have hst := hide (all_step (X := X) (k := k) (m := N))
      rcases hcase with ⟨hr, hr8, hrK⟩ | ⟨hr, hr8, hrK⟩ | ⟨hr, hr8, hrK⟩
      all_goals
        have hnr := name_empty (X k)
        rw [hr8] at hnr
        simp only [Bool.not_true, Bool.not_false] at hnr
        have Hr := hide hr
        have Hr8 := hide hr8
        have HrK := hide hrK
        clear hr hr8 hrK
        cases hal : allX X k N
        all_goals
          have Hal := hide hal
          clear hal
          rw [unhide Hr, unhide Hal] at hst
          go_wp2
          go_quiet ((first | (go_at_call 12; exact quiet_same (right_val (by first | exact unhide Hr | exact unhide Hr8 | exact unhide HrK) _)) | (go_at_call 21; exact quiet_same (name_calls _ _))))
          go_wp2_with (first | (go_at_call 12; refine (right_val (unhide Hr) _).mono ?_; rintro e w' ⟨rfl, rfl⟩))
          go_roundw
          case rel => exact ⟨k + 1, _, by omega, by rw [unhide hst]; rfl, by go_num, by rw [unhide Hw, World.drewN_drewN]⟩
          case measure => simp [intOf]; omega
    · have hkn : k = n := by omega
      subst hkn
      have HK2 := hide (more_all (X := X) (n := k) hK0)
      cases hal : allX X k N
      · have Hal := hide hal
        clear hal HK2
        go_wp2_with (go_at_call 14; refine (all_val (unhide Hal) hX1).mono ?_; rintro e w' ⟨rfl, rfl⟩)
        go_ret
        exact ⟨rfl, q, unhide Hw⟩
      · have Hal := hide hal
        have Hak : Hid (allX X k K = true) := unhide HK2 hal
        clear hal HK2
        go_wp2_with fail
        refine (all_val (unhide Hal) hX1).mono ?_
        rintro e w' ⟨rfl, rfl⟩
        go_wp2_with fail
        refine (all_val (unhide Hak) hX1).mono ?_
        rintro e w' ⟨rfl, rfl⟩
        go_wp2
        go_ret
        exact ⟨rfl, q, unhide Hw⟩
end Go.Proofs.YtbckmmodobennaaDoor
