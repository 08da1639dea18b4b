/-
  rightModule and Right of package module.
-/
import Derived.Test.YthdpgachdegcgaaMoRight
namespace Go.Proofs.Ythdpgachdegcgaa
open Go.RowKit
set_option linter.unusedVariables false
set_option maxRecDepth 8192

theorem headB_at {lo hi : Nat} {w : World} {s : Fin 5 → Option Addr × Nat × Nat} {x : Ac} {m : List Ac} (h : AcS lo hi w s x) (hx : m[0]? = some x) : headB m = decide (¬ (s 0).2.1 > 0) := by
  cases m with
  | nil => simp at hx
  | cons y r =>
    simp at hx; subst hx
    have := h.ps.len
    unfold headB
    cases hp : y.ps with
    | nil => rw [hp] at this; simp at this; simp [hp, ← this]
    | cons a b => rw [hp] at this; simp at this; simp [hp]; omega

set_option maxHeartbeats 2000000 in
theorem rmodule_calls {lo hi : Nat} {w : World} {a : Option Addr} {n : Nat} {m : List Ac} (h : AcA lo hi w a n m) (c : Nat) :
    Calls Try.prog 36 #[moV a n c] w fun e w' => e = .returned (.bool (rightM m)) ∧ Q0 w w' := by
  have hs := h.small
  have HLn := hide h.len
  have hf1 : Q0 w (w.alloc (.cells #[.slice a n c] 25)) := (Fr.refl _ w).alloc _
  have H1 := hide (AcA.fr h hf1 q0_no)
  have hb1 : (w.alloc (.cells #[.slice a n c] 25)).heap[w.heap.size]? = some (.cells #[.slice a n c] 25 (0, 0)) := blk_new w _
  by_cases h0 : n = 0
  · have HE := hide (show rightM m = false by
      have := unhide HLn; rw [h0] at this
      rw [List.length_eq_zero_iff.1 this]; rfl)
    subst h0
    go_enter Try.func36, Try.ntmps36
    go_wp2
    go_ret
    exact ⟨mret_bool (unhide HE).symm, hf1⟩
  have hb0 : ((n : Int) == 0) = false := by rw [beq_eq_false_iff_ne]; omega
  have hpos : 0 < n := by omega
  obtain ⟨b, off, s, x, ha, _, _, hx, hp, k0, _⟩ := AcA.get (unhide H1) hpos
  rw [Nat.zero_mul, Nat.add_zero] at k0
  have HH := hide (headB_at hp hx)
  have hp0 := hp.ps.small
  clear hp hx h h0
  generalize s 0 = p0 at *
  obtain ⟨a0, n0, c0⟩ := p0
  dsimp only at *
  subst ha
  by_cases hn0 : (n0 : Int) > 0
  · have HE := hide (show rightM m = false by unfold rightM; rw [unhide HH]; simp; omega)
    go_enter Try.func36, Try.ntmps36
    go_wp2
    go_ret
    exact ⟨mret_bool (unhide HE).symm, hf1⟩
  have HH2 := hide (show headB m = true by rw [unhide HH]; simp; omega)
  clear HH
  go_enter Try.func36, Try.ntmps36
  go_wp2
  generalize w.alloc (.cells #[.slice (some ⟨b, off, none⟩) n c] 25) = w1 at *
  go_loopw [23] (fun ix w' => ∃ k : Nat, k ≤ n ∧ ix = .int .i64 k ∧ (∀ (j : Nat) y, j < k → m[j]? = some y → rightA y n = true) ∧ Q0 w1 w') (fun ix w' => n - (intOf ix).toNat)
  case atStart => exact ⟨0, Nat.zero_le _, rfl, fun j y hj => absurd hj (by omega), Fr.refl _ _⟩
  case round =>
    obtain ⟨k, hk, rfl, hall, hF⟩ := hrel
    have Hall := hide hall
    clear hall k0
    by_cases hlt : k < n
    · obtain ⟨b', off', s', x', ha, _, _, hx, hp, k0, k1, k2, k3, k4⟩ := AcA.get (AcA.fr (unhide H1) hF q0_no) hlt
      obtain ⟨rfl, rfl⟩ : b = b' ∧ off = off' := by simpa using ha
      have HX := hide hx
      obtain ⟨w2, e2, hf2, _⟩ := acBox wr (slV (s' 0)) (slV (s' 1)) (slV (s' 2)) (slV (s' 3)) (slV (s' 4))
      have E2 := hide e2
      have H2 := hide (hp.fr hf2 q0_no)
      clear hx ha e2 hp
      cases hr : rightA x' n
      · have hd := hide hr
        clear hr
        go_wp2_with (go_at_call 56; rw [unhide E2]; refine (ractor_calls (unhide H2) _).mono ?_; rw [unhide hd]; rintro e w' ⟨rfl, hF2⟩)
        go_ret
        exact ⟨mret_bool (by unfold rightM; rw [unhide HLn, all_not (unhide HX) (unhide hd)]; simp), ((hf1.then hF).then hf2).then hF2⟩
      · have hd := hide hr
        clear hr
        go_wp2_with (go_at_call 56; rw [unhide E2]; refine (ractor_calls (unhide H2) _).mono ?_; rw [unhide hd]; rintro e w' ⟨rfl, hF2⟩)
        go_roundw
        case rel => exact ⟨k + 1, by omega, by go_num, below_step (f := fun y => rightA y n) (unhide Hall) (unhide HX) (unhide hd), (hF.then hf2).then hF2⟩
        case measure => simp [intOf]; omega
    · have HE : Hid (rightM m = true) := hide (by
        have hl := unhide HLn
        unfold rightM
        rw [hl, all_upto (fun j y hy => unhide Hall j y (by have := (List.getElem?_eq_some_iff.1 hy).1; omega) hy), unhide HH2]; rfl)
      go_wp2
      go_ret
      exact ⟨mret_bool (unhide HE).symm, hf1.then hF⟩

set_option maxHeartbeats 1000000 in
theorem mright_calls {lo hi : Nat} {w : World} {a : Option Addr} {n : Nat} {m : List Ac} (h : AcA lo hi w a n m) (c : Nat) :
    Calls Try.prog 15 #[moV a n c] w fun e w' => e = .returned (.int .i64 (rightE m)) ∧ Q0 w w' := by
  have hf1 : Q0 w (w.alloc (.cells #[.slice a n c] 25)) := (Fr.refl _ w).alloc _
  have H1 := hide (AcA.fr h hf1 q0_no)
  have hb1 : (w.alloc (.cells #[.slice a n c] 25)).heap[w.heap.size]? = some (.cells #[.slice a n c] 25 (0, 0)) := blk_new w _
  clear h
  cases hA1 : longM m
  · cases hA2 : rightM m
    all_goals
      have HE := hide (show rightE m = _ by unfold rightE; rw [hA1, hA2])
      have H2 := hide hA1
      have H3 := hide hA2
      clear hA1 hA2
      go_enter Try.func15, Try.ntmps15
      go_wp2_with (first
        | (go_at_call 35; refine (longModule_calls (unhide H1) _).mono ?_; rw [unhide H2]; rintro e w2 ⟨rfl, hF2⟩; have k0 := cell_at (hF2.blk hb1 (fun h => h)) 0; simp at k0; have H4 := hide (AcA.fr (unhide H1) hF2 q0_no))
        | (go_at_call 36; refine (rmodule_calls (unhide H4) _).mono ?_; rw [unhide H3]; rintro e w3 ⟨rfl, hF3⟩))
      go_ret
      exact ⟨ret_int (unhide HE).symm, (hf1.then hF2).then hF3⟩
  · have HE := hide (show rightE m = 3 by unfold rightE; rw [hA1]; rfl)
    have H2 := hide hA1
    clear hA1
    go_enter Try.func15, Try.ntmps15
    go_wp2_with (go_at_call 35; refine (longModule_calls (unhide H1) _).mono ?_; rw [unhide H2]; rintro e w2 ⟨rfl, hF2⟩)
    go_ret
    exact ⟨ret_int (unhide HE).symm, hf1.then hF2⟩

end Go.Proofs.Ythdpgachdegcgaa
