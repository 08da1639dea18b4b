/-
  A thread's number out of a row; how it begins anew.
-/
import Derived.Test.YtpchnpdolhogdaaWdLives
import Derived.Test.YtpchnpdolhogdaaWdArr
namespace Go.Proofs.Ytpchnpdolhogdaa
open Go.RowKit
set_option linter.unusedVariables false
set_option maxRecDepth 8192

def thI (t : Int) : Int := wrap64 ((IntKind.u64.wrap t).tmod 8)

theorem thI_lt (t : Int) : ∃ k : Nat, k < 8 ∧ thI t = (k : Int) := by
  unfold thI
  have h1 : 0 ≤ IntKind.u64.wrap t := by simp [IntKind.wrap, IntKind.signed, IntKind.bits]; omega
  obtain ⟨n, hn⟩ := Int.eq_ofNat_of_zero_le h1
  rw [hn]
  have e : (Int.ofNat n).tmod 8 = ((n % 8 : Nat) : Int) := rfl
  have h2 := Nat.mod_lt n (show 0 < 8 by omega)
  simp only [Int.ofNat_eq_natCast] at e ⊢
  rw [e]
  exact ⟨n % 8, h2, by unfold wrap64; omega⟩

/-- what the holder begins -/
def opI (t : Int) : Int := 2 + wrap64 ((IntKind.u64.wrap t).tmod 3)
theorem opI_is (t : Int) : opI t = 2 ∨ opI t = 3 ∨ opI t = 4 := by
  unfold opI
  have h1 : 0 ≤ IntKind.u64.wrap t := by simp [IntKind.wrap, IntKind.signed, IntKind.bits]; omega
  obtain ⟨n, hn⟩ := Int.eq_ofNat_of_zero_le h1
  rw [hn]
  have e : (Int.ofNat n).tmod 3 = ((n % 3 : Nat) : Int) := rfl
  have h2 := Nat.mod_lt n (show 0 < 3 by omega)
  simp only [Int.ofNat_eq_natCast] at e ⊢
  rw [e]
  unfold wrap64
  omega

theorem thread_calls {t : Int} {k : Nat} (hk : thI t = (k : Int)) (p : Int) (w : World) :
    Calls Try.prog 19 #[.agg #[.int .i64 t, .int .i64 p]] w fun e w' => e = .returned (.int .i64 (k : Int)) ∧ Fr (fun _ => False) w w' := by
  rw [← hk]
  go_enter Try.func19, Try.ntmps19
  go_wp2
  go_ret
  exact ⟨rfl, (Fr.refl _ w).alloc _⟩

/-- a thread begins anew, if it has nothing under way -/
def nop (d : Wd) (k : Nat) (o : Int) : Int := if k = 0 then (if d.held = true then opI o else 1) else 0
def lbg (d : Wd) (k : Nat) (o : Int) : Wd := if 0 < d.pc k then d else (bgn d (k : Int) (nop d k o)).1

theorem lbg_ow {d : Wd} (h : Ow d) (k : Nat) (o : Int) : Ow (lbg d k o) := by
  unfold lbg
  split
  · exact h
  · exact h.bgn _ _

/-- what has begun -/
def fpp (d : Wd) (k : Nat) (o : Int) : Nat := fpc k (nop d k o)
theorem lbg_eq {d : Wd} {k : Nat} (hk : k < 8) (o : Int) (hp : d.pc k = 0) : 0 < fpp d k o ∧ lbg d k o = d.set k (fpp d k o) := by
  have hp' : ¬ 0 < d.pc k := by omega
  unfold lbg
  rw [if_neg hp']
  unfold bgn
  rw [if_pos (by omega), Int.toNat_natCast]
  have h0 : 0 < fpp d k o := by
    unfold fpp fpc nop
    by_cases hz : k = 0
    · subst hz
      rw [if_pos rfl, if_pos rfl]
      by_cases hh : d.held = true
      · rw [if_pos hh]
        rcases opI_is o with h | h | h <;> rw [h] <;> decide
      · rw [if_neg hh]; decide
    · rw [if_neg hz, if_neg hz]; decide
  refine ⟨h0, ?_⟩
  have h1 : ¬ fpc k (nop d k o) = 0 := by unfold fpp at h0; omega
  rw [if_neg h1, if_neg hp', if_neg]
  · rfl
  · rintro ⟨rfl, h2⟩
    unfold nop at h2
    rw [if_pos rfl] at h2
    by_cases hh : d.held = true
    · rw [if_pos hh] at h2
      have := h2.1 hh
      rcases opI_is o with h | h | h <;> omega
    · rw [if_neg hh] at h2
      exact hh (h2.2 rfl)

theorem lbg_pos {d : Wd} {k : Nat} (hk : k < 8) (o : Int) : 0 < (lbg d k o).pc k := by
  by_cases hp : 0 < d.pc k
  · unfold lbg; rw [if_pos hp]; exact hp
  · obtain ⟨h1, h2⟩ := lbg_eq hk o (show d.pc k = 0 by omega)
    rw [h2]
    show 0 < (if k = k then _ else _)
    rw [if_pos rfl]
    exact h1
theorem lbg_same {d : Wd} {k : Nat} (hk : k < 8) (o : Int) : (lbg d k o).now = d.now ∧ (lbg d k o).held = d.held := by
  by_cases hp : 0 < d.pc k
  · unfold lbg; rw [if_pos hp]; exact ⟨rfl, rfl⟩
  · obtain ⟨h1, h2⟩ := lbg_eq hk o (show d.pc k = 0 by omega)
    rw [h2]
    exact ⟨rfl, rfl⟩

set_option maxHeartbeats 2000000 in
theorem lbegin {w : World} {b : Nat} {d : Wd} (h : Wo w b d) {t : Int} {k : Nat} (hk : thI t = (k : Int)) (hk8 : k < 8) (o : Int) :
    Calls Try.prog 20 #[.pointer (some ⟨b, 0, none⟩), .agg #[.int .i64 t, .int .i64 o]] w fun e w' => e = .returned (.tuple #[]) ∧ Wo w' b (lbg d k o) ∧ FrW b w w' := by
  unfold lbg
  by_cases hp : 0 < d.pc k
  · rw [if_pos hp]
    go_enter Try.func20, Try.ntmps20
    go_wp2_with (first
      | (go_at_call 19; refine (thread_calls hk _ _).mono ?_; rintro e w1 ⟨rfl, hF⟩; have h1 := (h.al _).up hF)
      | (go_at_call 18; refine (busy_yes h1.is hk8 hp).mono ?_; rintro e w' ⟨rfl, rfl⟩))
    exact bodyPost_ret (results_none rfl _ _ _) rfl ⟨rfl, h1, ((Fr.refl _ w).alloc _).trans hF (fun _ _ h => h) (fun _ _ h => h.elim)⟩
  · rw [if_neg hp]
    have hp0 : d.pc k = 0 := by omega
    have HB := hide (fun (w1 : World) (h1 : Wo w1 b d) => obegin h1 (k : Int) (nop d k o))
    have HH := hide (fun (w1 : World) (h1 : Wo w1 b d) => holds_calls h1.is)
    have HQ := hide (fun (w1 : World) (h1 : Wo w1 b d) => busy_no h1.is hk8 hp0)
    unfold nop at HB ⊢
    generalize bgn d (k : Int) = f at *
    by_cases hz : k = 0
    · subst hz
      rw [if_pos rfl] at HB ⊢
      cases hd : d.held
      · rw [hd] at HB HH
        simp only [Bool.false_eq_true, if_false] at HB ⊢
        clear hp hp0 hd
        go_enter Try.func20, Try.ntmps20
        go_wp2_with (first
          | (go_at_call 19; refine (thread_calls hk _ _).mono ?_; rintro e w1 ⟨rfl, hF⟩; have h1 := (h.al _).up hF; have hB := hF.blk (blk_new _ _) (fun h => h); have c1 := (cell_at hB 1).trans rfl)
          | (go_at_call 18; refine (unhide HQ _ h1).mono ?_; rintro e w' ⟨rfl, rfl⟩)
          | (go_at_call 17; refine (unhide HH _ h1).mono ?_; rintro e w' ⟨rfl, rfl⟩)
          | (go_at_call 12; refine (unhide HB _ h1).mono ?_; rintro e w2 ⟨rfl, h2, hF2⟩))
        go_end0
        exact ⟨rfl, h2, (((Fr.refl _ w).alloc _).trans hF (fun _ _ h => h) (fun _ _ h => h.elim)).trans hF2 (fun _ _ h => h) (fun _ _ h => h)⟩
      · rw [hd] at HB HH
        simp only [if_true] at HB ⊢
        clear hp hp0 hd
        unfold opI at HB ⊢
        have hO := opI_is o
        unfold opI at hO
        go_enter Try.func20, Try.ntmps20
        go_wp2_with (first
          | (go_at_call 19; refine (thread_calls hk _ _).mono ?_; rintro e w1 ⟨rfl, hF⟩; have h1 := (h.al _).up hF; have hB := hF.blk (blk_new _ _) (fun h => h); have c1 := (cell_at hB 1).trans rfl)
          | (go_at_call 18; refine (unhide HQ _ h1).mono ?_; rintro e w' ⟨rfl, rfl⟩)
          | (go_at_call 17; refine (unhide HH _ h1).mono ?_; rintro e w' ⟨rfl, rfl⟩)
          | (go_at_call 12; refine (unhide HB _ h1).mono ?_; rintro e w2 ⟨rfl, h2, hF2⟩))
        go_end0
        exact ⟨rfl, h2, (((Fr.refl _ w).alloc _).trans hF (fun _ _ h => h) (fun _ _ h => h.elim)).trans hF2 (fun _ _ h => h) (fun _ _ h => h)⟩
    · rw [if_neg hz] at HB ⊢
      have hbk : ((k : Int) == 0) = false := by simp; omega
      clear hp hp0 hz
      go_enter Try.func20, Try.ntmps20
      go_wp2_with (first
        | (go_at_call 19; refine (thread_calls hk _ _).mono ?_; rintro e w1 ⟨rfl, hF⟩; have h1 := (h.al _).up hF; have hB := hF.blk (blk_new _ _) (fun h => h); have c1 := (cell_at hB 1).trans rfl)
        | (go_at_call 18; refine (unhide HQ _ h1).mono ?_; rintro e w' ⟨rfl, rfl⟩)
        | (go_at_call 12; refine (unhide HB _ h1).mono ?_; rintro e w2 ⟨rfl, h2, hF2⟩))
      go_end0
      exact ⟨rfl, h2, (((Fr.refl _ w).alloc _).trans hF (fun _ _ h => h) (fun _ _ h => h.elim)).trans hF2 (fun _ _ h => h) (fun _ _ h => h)⟩

end Go.Proofs.Ytpchnpdolhogdaa
