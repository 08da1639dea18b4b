/-
  A thread's number out of a row; how it begins anew.
-/
import Derived.Test.YtingpopcdihclaaDqLives
import Derived.Test.YtingpopcdihclaaDqArr
namespace Go.Proofs.Ytingpopcdihclaa
open Go.RowKit
set_option linter.unusedVariables false
set_option maxRecDepth 8192

def thI (t : Int) : Int := wrap64 ((IntKind.u64.wrap t).tmod 8)

theorem thI_lt (t : Int) : ∃ k : Nat, k < 8 ∧ thI t = (k : Int) := by
  unfold thI
  have h1 : 0 ≤ IntKind.u64.wrap t := by simp [IntKind.wrap, IntKind.signed, IntKind.bits]; omega
  obtain ⟨n, hn⟩ := Int.eq_ofNat_of_zero_le h1
  rw [hn]
  have e : (Int.ofNat n).tmod 8 = ((n % 8 : Nat) : Int) := rfl
  have h2 := Nat.mod_lt n (show 0 < 8 by omega)
  simp only [Int.ofNat_eq_natCast] at e ⊢
  rw [e]
  exact ⟨n % 8, h2, by unfold wrap64; omega⟩

set_option maxHeartbeats 1000000 in
theorem thread_calls {t : Int} {k : Nat} (hk : thI t = (k : Int)) (p : Bool) (w : World) :
    Calls Try.prog 24 #[.agg #[.int .i64 t, .bool p]] w fun e w' => e = .returned (.int .i64 (k : Int)) ∧ Fr (fun _ => False) w w' := by
  rw [← hk]
  go_enter Try.func24, Try.ntmps24
  go_wp2
  go_ret
  exact ⟨rfl, (Fr.refl _ w).alloc _⟩

set_option maxHeartbeats 2000000 in
theorem next_busy {w : World} {b g S : Nat} {d : Dq} (h : IsD w b g S d) {t : Int} {k : Nat} (hk : thI t = (k : Int)) (hk8 : k < 8) (p : Bool) (n : Int) (hp : 0 < (d.th k).pc) :
    Calls Try.prog 23 #[.pointer (some ⟨b, 0, none⟩), .agg #[.int .i64 t, .bool p], .int .i64 n] w fun e w' => e = .returned (.int .i64 n) ∧ IsD w' b g S d ∧ FrD b g w w' := by
  go_enter Try.func23, Try.ntmps23
  go_wp2_with (first
    | (go_at_call 24; refine (thread_calls hk _ _).mono ?_; rintro e w1 ⟨rfl, hF⟩; have hD1 := (h.al _).fr hF (fun h => h) (fun h => h))
    | (go_at_call 19; refine (busy_yes hD1 hk8 hp).mono ?_; rintro e w' ⟨rfl, rfl⟩))
  go_ret
  exact ⟨rfl, hD1, ((Fr.refl _ w).alloc _).trans hF (fun _ _ h => h) (fun _ _ h => h.elim)⟩

set_option maxHeartbeats 2000000 in
theorem next_push {w : World} {b g S : Nat} {d : Dq} (h : IsD w b g S d) {t : Int} (hk : thI t = ((0 : Nat) : Int)) (n : Int) (hn : 0 ≤ n ∧ n ≤ 1152921504606846976) (hp : (d.th 0).pc = 0) :
    Calls Try.prog 23 #[.pointer (some ⟨b, 0, none⟩), .agg #[.int .i64 t, .bool true], .int .i64 n] w fun e w' => e = .returned (.int .i64 (n + 1)) ∧ IsD w' b g S (d.set 0 ⟨1, n + 1, 0, 0, false⟩) ∧ FrD b g w w' := by
  obtain ⟨hn0, hn1⟩ := hn
  go_enter Try.func23, Try.ntmps23
  go_wp2_with (first
    | (go_at_call 24; refine (thread_calls hk _ _).mono ?_; rintro e w1 ⟨rfl, hF⟩; have hD1 := (h.al _).fr hF (fun h => h) (fun h => h); have hB := hF.blk (blk_new _ _) (fun h => h); have c1 := (cell_at hB 1).trans rfl)
    | (go_at_call 19; refine (busy_no hD1 (k := 0) (by omega) hp).mono ?_; rintro e w' ⟨rfl, rfl⟩)
    | (go_at_call 13; refine (begin_ok hD1 (k := 0) (by omega) 0 (n + 1) (by decide) hp).mono ?_; rintro e w2 ⟨rfl, hD2, hF2⟩))
  go_ret
  exact ⟨rfl, hD2, (((Fr.refl _ w).alloc _).trans hF (fun _ _ h => h) (fun _ _ h => h.elim)).trans hF2 (fun _ _ h => h) (fun _ _ h => h)⟩

set_option maxHeartbeats 2000000 in
theorem next_pop {w : World} {b g S : Nat} {d : Dq} (h : IsD w b g S d) {t : Int} (hk : thI t = ((0 : Nat) : Int)) (n : Int) (hn : 0 ≤ n ∧ n ≤ 1152921504606846976) (hp : (d.th 0).pc = 0) :
    Calls Try.prog 23 #[.pointer (some ⟨b, 0, none⟩), .agg #[.int .i64 t, .bool false], .int .i64 n] w fun e w' => e = .returned (.int .i64 n) ∧ IsD w' b g S (d.set 0 ⟨5, n + 1, 0, 0, false⟩) ∧ FrD b g w w' := by
  obtain ⟨hn0, hn1⟩ := hn
  go_enter Try.func23, Try.ntmps23
  go_wp2_with (first
    | (go_at_call 24; refine (thread_calls hk _ _).mono ?_; rintro e w1 ⟨rfl, hF⟩; have hD1 := (h.al _).fr hF (fun h => h) (fun h => h); have hB := hF.blk (blk_new _ _) (fun h => h); have c1 := (cell_at hB 1).trans rfl)
    | (go_at_call 19; refine (busy_no hD1 (k := 0) (by omega) hp).mono ?_; rintro e w' ⟨rfl, rfl⟩)
    | (go_at_call 13; refine (begin_ok hD1 (k := 0) (by omega) 1 (n + 1) (by decide) hp).mono ?_; rintro e w2 ⟨rfl, hD2, hF2⟩))
  go_ret
  exact ⟨rfl, hD2, (((Fr.refl _ w).alloc _).trans hF (fun _ _ h => h) (fun _ _ h => h.elim)).trans hF2 (fun _ _ h => h) (fun _ _ h => h)⟩

theorem firstP_steal {k : Nat} (hk : 0 < k) : firstP k 2 = 11 := by
  unfold firstP; rw [if_neg (by omega), if_neg (by omega), if_pos (by omega)]

set_option maxHeartbeats 2000000 in
theorem next_steal {w : World} {b g S : Nat} {d : Dq} (h : IsD w b g S d) {t : Int} {k : Nat} (hk : thI t = (k : Int)) (hk8 : k < 8) (hk0 : 0 < k) (p : Bool) (n : Int) (hn : 0 ≤ n ∧ n ≤ 1152921504606846976) (hp : (d.th k).pc = 0) :
    Calls Try.prog 23 #[.pointer (some ⟨b, 0, none⟩), .agg #[.int .i64 t, .bool p], .int .i64 n] w fun e w' => e = .returned (.int .i64 n) ∧ IsD w' b g S (d.set k ⟨11, n + 1, 0, 0, false⟩) ∧ FrD b g w w' := by
  obtain ⟨hn0, hn1⟩ := hn
  have hbk : ((k : Int) == 0) = false := by simp; omega
  have hbo := fun (w1 : World) (h1 : IsD w1 b g S d) => begin_ok h1 hk8 2 (n + 1) (by rw [firstP_steal hk0]; omega) hp
  rw [firstP_steal hk0] at hbo
  have HB := hide hbo
  clear hbo
  go_enter Try.func23, Try.ntmps23
  go_wp2_with (first
    | (go_at_call 24; refine (thread_calls hk _ _).mono ?_; rintro e w1 ⟨rfl, hF⟩; have hD1 := (h.al _).fr hF (fun h => h) (fun h => h); have hB := hF.blk (blk_new _ _) (fun h => h); have c1 := (cell_at hB 1).trans rfl)
    | (go_at_call 19; refine (busy_no hD1 hk8 hp).mono ?_; rintro e w' ⟨rfl, rfl⟩)
    | (go_at_call 13; refine (unhide HB _ hD1).mono ?_; rintro e w2 ⟨rfl, hD2, hF2⟩))
  all_goals
    go_ret
    exact ⟨rfl, hD2, (((Fr.refl _ w).alloc _).trans hF (fun _ _ h => h) (fun _ _ h => h.elim)).trans hF2 (fun _ _ h => h) (fun _ _ h => h)⟩

theorem next_calls {w : World} {b g S : Nat} {d : Dq} (h : IsD w b g S d) {t : Int} {k : Nat} (hk : thI t = (k : Int)) (hk8 : k < 8) (p : Bool) (n : Int) (hn : 0 ≤ n ∧ n ≤ 1152921504606846976) :
    Calls Try.prog 23 #[.pointer (some ⟨b, 0, none⟩), .agg #[.int .i64 t, .bool p], .int .i64 n] w fun e w' => e = .returned (.int .i64 (nxt d k p n).2) ∧ IsD w' b g S (nxt d k p n).1 ∧ FrD b g w w' := by
  unfold nxt
  by_cases hp : 0 < (d.th k).pc
  · rw [if_pos hp]; exact next_busy h hk hk8 p n hp
  · have h0 : (d.th k).pc = 0 := by omega
    rw [if_neg hp]
    by_cases hz : k = 0
    · subst hz
      rw [if_pos rfl]
      cases p with
      | true => exact next_push h hk n hn h0
      | false => exact next_pop h hk n hn h0
    · rw [if_neg hz]
      exact next_steal h hk hk8 (by omega) p n hn h0

end Go.Proofs.Ytingpopcdihclaa
