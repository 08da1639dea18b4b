/-
  The document's Right of modules.
-/
import Derived.Test.YtkcljnfalimlgaaMoRefWell
import Derived.Deep.RegionHeld3
namespace Go.Proofs.Ytkcljnfalimlgaa
open Go.RowKit
set_option linter.unusedVariables false
set_option maxRecDepth 100000

theorem well_val {lo hi : Nat} {w : World} {s : Fin 5 → Option Addr × Nat × Nat} {x : Ac} {m : Int} {r : Bool} (hr : rightA x m = r) (h : AcS lo hi w s x) :
    Calls Try.prog 35 #[acV s, .int .i64 m] w fun e w' => e = .returned (.bool r) ∧ Q0 w w' := by
  subst hr; exact well_calls h m

set_option maxHeartbeats 1000000 in
theorem xmright_calls {lo hi : Nat} {w : World} {a : Option Addr} {n : Nat} {m : List Ac} (h : AcA lo hi w a n m) (c : Nat) :
    Calls Try.prog 20 #[moV a n c] w fun e w' => e = .returned (.int .i64 (rightE m)) ∧ Q0 w w' := by
  have hs := h.small
  have HLn := hide h.len
  have q1 : Q0 w (w.alloc (.cells #[.slice a n c] 24)) := (Fr.refl _ w).alloc _
  have H1 := hide (AcA.fr h q1 q0_no)
  have b1 : (w.alloc (.cells #[.slice a n c] 24)).heap[w.heap.size]? = some (.cells #[.slice a n c] 24 (0, 0)) := blk_new w _
  have B1 := hide b1
  clear h b1
  by_cases h8 : (n : Int) > 8
  · have HE := hide (show rightE m = 3 by unfold rightE longM; rw [unhide HLn, decide_eq_true (by omega)]; rfl)
    go_enter Try.func20, Try.ntmps20
    go_wp2
    go_ret
    exact ⟨ret_int (unhide HE).symm, q1⟩
  go_enter Try.func20, Try.ntmps20
  go_wp2
  generalize w.alloc (.cells #[.slice a n c] 24) = w1 at *
  go_loopw [3] (fun i w' => ∃ k : Nat, k ≤ n ∧ i = .int .i64 k ∧ (∀ (j : Nat) y, j < k → m[j]? = some y → longA y = false) ∧ Q0 w1 w') (fun i w' => n - (intOf i).toNat)
  case atStart => exact ⟨0, Nat.zero_le _, rfl, fun j y hj => absurd hj (by omega), Fr.refl _ _⟩
  case round =>
    obtain ⟨k, hk, rfl, hall, hF⟩ := hrel
    have Hall := hide hall
    clear hall
    have m1 := cell_at (hF.blk (unhide B1) (fun h => h)) 0
    simp at m1
    by_cases hlt : k < n
    · obtain ⟨b, off, s, x, rfl, _, _, hx, hp, e0, e1, e2, e3, e4⟩ := AcA.get (AcA.fr (unhide H1) hF q0_no) hlt
      have HX := hide hx
      have HP := hide hp
      clear hx hp
      cases hr : longA x
      · have hd := hide hr
        clear hr
        go_wp2_with (go_at_call 34; refine (much_calls (unhide HP)).mono ?_; rw [unhide hd]; rintro e w3 ⟨rfl, hF3⟩)
        go_roundw
        case rel =>
          refine ⟨k + 1, by omega, by go_num, fun j y hj hy => ?_, hF.then hF3⟩
          rcases Nat.lt_or_ge j k with h' | h'
          · exact unhide Hall j y h' hy
          · obtain rfl : j = k := by omega
            rw [unhide HX] at hy; cases hy; exact unhide hd
        case measure => simp [intOf]; omega
      · have hd := hide hr
        have HE := hide (show rightE m = 3 by unfold rightE longM; rw [any_yes (unhide HX) hr, Bool.or_true]; rfl)
        clear hr
        go_wp2_with (go_at_call 34; refine (much_calls (unhide HP)).mono ?_; rw [unhide hd]; rintro e w3 ⟨rfl, hF3⟩)
        go_ret
        exact ⟨ret_int (unhide HE).symm, (q1.then hF).then hF3⟩
    · have HLg := hide (show longM m = false by
        unfold longM
        rw [unhide HLn, decide_eq_false (by omega), any_not (fun j y hy => unhide Hall j y (by have := (List.getElem?_eq_some_iff.1 hy).1; have := unhide HLn; omega) hy)]; rfl)
      have B2 := hide (hF.blk (unhide B1) (fun h => h))
      have H2 := hide (AcA.fr (unhide H1) hF q0_no)
      have Q2 := hide (q1.then hF)
      clear Hall hF
      go_wp2
      clear m1
      generalize wr = w2 at *
      go_loopw [4] (fun i w' => ∃ k : Nat, k ≤ n ∧ i = .int .i64 k ∧ (∀ (j : Nat) y, j < k → m[j]? = some y → rightA y n = true) ∧ Q0 w2 w') (fun i w' => n - (intOf i).toNat)
      case atStart => exact ⟨0, Nat.zero_le _, rfl, fun j y hj => absurd hj (by omega), Fr.refl _ _⟩
      case round =>
        obtain ⟨k, hk, rfl, hall, hF⟩ := hrel
        have Hall := hide hall
        clear hall
        have m1 := cell_at (hF.blk (unhide B2) (fun h => h)) 0
        simp at m1
        by_cases hlt : k < n
        · obtain ⟨b, off, s, x, rfl, _, _, hx, hp, e0, e1, e2, e3, e4⟩ := AcA.get (AcA.fr (unhide H2) hF q0_no) hlt
          have HX := hide hx
          have HP := hide (hp.fr ((Fr.refl (fun _ => False) wr).drew) q0_no)
          have hlt' : (k : Int) < (n : Int) := by omega
          clear hx hp
          have SG : ∀ w', Q0 wr w' → w'.cell? ⟨w.heap.size, 0, none⟩ = some (.slice (some ⟨b, off, none⟩) n c) ∧ w'.cell? ⟨b, off + k * 5, none⟩ = some (.slice (s 0).1 (s 0).2.1 (s 0).2.2) ∧ w'.cell? ⟨b, off + k * 5 + 1, none⟩ = some (.slice (s 1).1 (s 1).2.1 (s 1).2.2) ∧ w'.cell? ⟨b, off + k * 5 + 2, none⟩ = some (.slice (s 2).1 (s 2).2.1 (s 2).2.2) ∧ w'.cell? ⟨b, off + k * 5 + 3, none⟩ = some (.slice (s 3).1 (s 3).2.1 (s 3).2.2) ∧ w'.cell? ⟨b, off + k * 5 + 4, none⟩ = some (.slice (s 4).1 (s 4).2.1 (s 4).2.2) ∧ Q0 wr w' := fun w' hq => ⟨cell_fr hq (fun h => h) m1, cell_fr hq (fun h => h) e0, cell_fr hq (fun h => h) e1, cell_fr hq (fun h => h) e2, cell_fr hq (fun h => h) e3, cell_fr hq (fun h => h) e4, hq⟩
          have hq0 : Q0 wr wr := Fr.refl _ _
          have hqd : Q0 wr wr.drew := (Fr.refl _ _).drew
          cases hr : rightA x n
          · have hd := hide hr
            have HE := hide (show rightE m = 4 by unfold rightE rightM; rw [unhide HLg, unhide HLn, all_not (unhide HX) hr]; simp)
            clear hr
            go_wp2
            go_region_held3 (fun w' => w'.cell? ⟨w.heap.size, 0, none⟩ = some (.slice (some ⟨b, off, none⟩) n c) ∧ w'.cell? ⟨b, off + k * 5, none⟩ = some (.slice (s 0).1 (s 0).2.1 (s 0).2.2) ∧ w'.cell? ⟨b, off + k * 5 + 1, none⟩ = some (.slice (s 1).1 (s 1).2.1 (s 1).2.2) ∧ w'.cell? ⟨b, off + k * 5 + 2, none⟩ = some (.slice (s 2).1 (s 2).2.1 (s 2).2.2) ∧ w'.cell? ⟨b, off + k * 5 + 3, none⟩ = some (.slice (s 3).1 (s 3).2.1 (s 3).2.2) ∧ w'.cell? ⟨b, off + k * 5 + 4, none⟩ = some (.slice (s 4).1 (s 4).2.1 (s 4).2.2) ∧ Q0 wr w') ((refine SG _ ?_; first | assumption | exact Fr.then hqd (by assumption)))
              ((go_at_call 35; refine (well_val (unhide hd) (unhide HP)).mono ?_; rintro e w3 ⟨rfl, hF3⟩; have hq3 : Q0 wr w3 := hqd.then hF3))
            all_goals
              go_wp2
              go_ret
              exact ⟨ret_int (unhide HE).symm, (((unhide Q2).then hF).then hqd).then hF3⟩
          · have hd := hide hr
            clear hr
            go_wp2
            go_region_held3 (fun w' => w'.cell? ⟨w.heap.size, 0, none⟩ = some (.slice (some ⟨b, off, none⟩) n c) ∧ w'.cell? ⟨b, off + k * 5, none⟩ = some (.slice (s 0).1 (s 0).2.1 (s 0).2.2) ∧ w'.cell? ⟨b, off + k * 5 + 1, none⟩ = some (.slice (s 1).1 (s 1).2.1 (s 1).2.2) ∧ w'.cell? ⟨b, off + k * 5 + 2, none⟩ = some (.slice (s 2).1 (s 2).2.1 (s 2).2.2) ∧ w'.cell? ⟨b, off + k * 5 + 3, none⟩ = some (.slice (s 3).1 (s 3).2.1 (s 3).2.2) ∧ w'.cell? ⟨b, off + k * 5 + 4, none⟩ = some (.slice (s 4).1 (s 4).2.1 (s 4).2.2) ∧ Q0 wr w') ((refine SG _ ?_; first | assumption | exact Fr.then hqd (by assumption)))
              ((go_at_call 35; refine (well_val (unhide hd) (unhide HP)).mono ?_; rintro e w3 ⟨rfl, hF3⟩; have hq3 : Q0 wr w3 := hqd.then hF3))
            all_goals
              go_wp2
              go_roundw
              case rel => exact ⟨k + 1, by omega, by go_num, below_step (f := fun y => rightA y n) (unhide Hall) (unhide HX) (unhide hd), (hF.then hqd).then hF3⟩
              case measure => simp [intOf]; omega
        · have HAll := hide (show m.all (rightA · m.length) = true by rw [unhide HLn]; exact all_upto (fun j y hy => unhide Hall j y (by have := (List.getElem?_eq_some_iff.1 hy).1; have := unhide HLn; omega) hy))
          clear Hall
          by_cases h0 : n = 0
          · have HE := hide (show rightE m = 4 by
              have := unhide HLn; rw [h0] at this
              unfold rightE rightM; rw [unhide HLg, List.length_eq_zero_iff.1 this]; rfl)
            subst h0
            go_wp2
            go_ret
            exact ⟨ret_int (unhide HE).symm, (unhide Q2).then hF⟩
          · have hb0 : ((n : Int) == 0) = false := by rw [beq_eq_false_iff_ne]; omega
            obtain ⟨b, off, s, x, ha, _, _, hx, hp, k0, _⟩ := AcA.get (AcA.fr (unhide H2) hF q0_no) (show 0 < n by omega)
            rw [Nat.zero_mul, Nat.add_zero] at k0
            have HH := hide (headB_at hp hx)
            have hp0 := hp.ps.small
            have hpos : (0 : Int) < (n : Int) := by omega
            subst ha
            clear hx hp h0
            by_cases hn0 : ((s 0).2.1 : Int) > 0
            · have HE := hide (show rightE m = 4 by unfold rightE rightM; rw [unhide HLg, unhide HH, decide_eq_false (by omega)]; rfl)
              go_wp2
              go_ret
              exact ⟨ret_int (unhide HE).symm, (unhide Q2).then hF⟩
            · have HE := hide (show rightE m = 0 by unfold rightE rightM; rw [unhide HLg, unhide HH, decide_eq_true (by omega), unhide HAll]; rfl)
              go_wp2
              go_ret
              exact ⟨ret_int (unhide HE).symm, (unhide Q2).then hF⟩

end Go.Proofs.Ytkcljnfalimlgaa
