/-
  ModuleSame walked.
-/
import Derived.Test.YtmmfmjaljgkobaaMoLives
import Derived.Test.YtmmfmjaljgkobaaMoRefSameM
namespace Go.Proofs.Ytmmfmjaljgkobaa
open Go.RowKit
set_option linter.unusedVariables false
set_option maxRecDepth 8192

theorem moB_inj {m m' : List Ac} (h : rightE m = 0) (h' : rightE m' = 0) : (moB m = moB m') ↔ m = m' :=
  ⟨fun e => (moB_prefix (r := []) (r' := []) h h' (by rw [e])).1, fun e => by rw [e]⟩

theorem same_val {lo hi lo' hi' : Nat} {w : World} {a a' : Option Addr} {n n' : Nat} {m m' : List Ac} {r : Bool} (hr : decide (m = m') = r) (h : AcA lo hi w a n m) (h' : AcA lo' hi' w a' n' m') (c c' : Nat) :
    Calls Try.prog 18 #[moV a n c, moV a' n' c'] w fun e w' => e = .returned (.bool r) ∧ Q0 w w' := by
  subst hr; exact msame_calls h h' c c'
theorem xsame_val {lo hi lo' hi' : Nat} {w : World} {a a' : Option Addr} {n n' : Nat} {m m' : List Ac} {r : Bool} (hr : decide (m = m') = r) (h : AcA lo hi w a n m) (h' : AcA lo' hi' w a' n' m') (c c' : Nat) :
    Calls Try.prog 16 #[moV a n c, moV a' n' c'] w fun e w' => e = .returned (.bool r) ∧ Q0 w w' := by
  subst hr; exact xsame_calls h h' c c'

set_option maxHeartbeats 1000000 in
theorem msame_law {hi hi' : Nat} {w : World} {a a' : Option Addr} {n n' : Nat} {m m' : List Ac} (h : AcA 0 hi w a n m) (h' : AcA 0 hi' w a' n' m') (hh : hi ≤ w.heap.size) (hh' : hi' ≤ w.heap.size) (c c' : Nat) :
    Calls Try.prog 8 #[moV a n c, moV a' n' c'] w fun e w' => e = .returned (.bool true) ∧ Q0 w w' := by
  have q1 : Q0 w ((w.alloc (.cells #[.slice a n c] 24)).alloc (.cells #[.slice a' n' c'] 24)) := ((Fr.refl _ w).alloc _).alloc _
  have b1 : ((w.alloc (.cells #[.slice a n c] 24)).alloc (.cells #[.slice a' n' c'] 24)).heap[w.heap.size]? = some (.cells #[.slice a n c] 24 (0, 0)) := blk_alloc (blk_new w _)
  have b2 : ((w.alloc (.cells #[.slice a n c] 24)).alloc (.cells #[.slice a' n' c'] 24)).heap[w.heap.size + 1]? = some (.cells #[.slice a' n' c'] 24 (0, 0)) := by
    have := blk_new (w.alloc (.cells #[.slice a n c] 24)) (.cells #[.slice a' n' c'] 24)
    simpa using this
  have HA := hide (AcA.fr h q1 q0_no)
  have HA' := hide (AcA.fr h' q1 q0_no)
  have B1 := hide b1
  have B2 := hide b2
  obtain ⟨r, hr⟩ : ∃ r, decide (m = m') = r := ⟨_, rfl⟩
  have HR := hide hr
  have hrr : (r != r) = false := by simp
  have HT := hide (show rightE m = 0 → bytesT m = ba (moB m) from fun e => by unfold bytesT; rw [if_pos e])
  have HT' := hide (show rightE m' = 0 → bytesT m' = ba (moB m') from fun e => by unfold bytesT; rw [if_pos e])
  clear h h' b1 b2 hr
  go_enter Try.func8, Try.ntmps8
  go_wp2_with fail
  refine (mlives_calls _).mono ?_
  rintro e w2 ⟨rfl, hF2⟩
  have F2 := q1.then hF2
  generalize (w.alloc (.cells #[.slice a n c] 24)).alloc (.cells #[.slice a' n' c'] 24) = w1 at *
  have k2 := cell_at (hF2.blk (unhide B1) (fun h => h)) 0
  have j2 := cell_at (hF2.blk (unhide B2) (fun h => h)) 0
  simp at k2 j2
  go_wp2_with fail
  refine (same_val (unhide HR) (AcA.fr (unhide HA) hF2 q0_no) (AcA.fr (unhide HA') hF2 q0_no) _ _).mono ?_
  rintro e w3 ⟨rfl, hF3⟩
  have G3 := hF2.then hF3
  have k3 := cell_at (G3.blk (unhide B1) (fun h => h)) 0
  have j3 := cell_at (G3.blk (unhide B2) (fun h => h)) 0
  simp at k3 j3
  clear k2 j2
  go_wp2_with fail
  refine (xsame_val (unhide HR) (AcA.fr (unhide HA) G3 q0_no) (AcA.fr (unhide HA') G3 q0_no) _ _).mono ?_
  rintro e w4 ⟨rfl, hF4⟩
  have G4 := G3.then hF4
  have k4 := cell_at (G4.blk (unhide B1) (fun h => h)) 0
  have j4 := cell_at (G4.blk (unhide B2) (fun h => h)) 0
  simp at k4 j4
  clear k3 j3
  go_wp2_with fail
  refine (same_val (decide_eq_true rfl) (AcA.fr (unhide HA) G4 q0_no) (AcA.fr (unhide HA) G4 q0_no) _ _).mono ?_
  rintro e w5 ⟨rfl, hF5⟩
  have G5 := G4.then hF5
  have k5 := cell_at (G5.blk (unhide B1) (fun h => h)) 0
  have j5 := cell_at (G5.blk (unhide B2) (fun h => h)) 0
  simp at k5 j5
  have z5 := G5.size
  have z1 := q1.size
  clear k4 j4
  go_wp2_with fail
  refine (mbytes_calls (AcA.fr (unhide HA) G5 q0_no) (by omega) _).mono ?_
  rintro e w6 ⟨rfl, hF6⟩
  have G6 := G5.then hF6
  have j6 := cell_at (G6.blk (unhide B2) (fun h => h)) 0
  simp at j6
  have z6 := G6.size
  clear k5 j5
  go_wp2_with fail
  refine (mbytes_calls (AcA.fr (unhide HA') G6 q0_no) (by omega) _).mono ?_
  rintro e w7 ⟨rfl, hF7⟩
  have FF := (q1.then G6).then hF7
  by_cases e1 : rightE m = 0
  · by_cases e2 : rightE m' = 0
    · rw [e1, e2, unhide HT e1, unhide HT' e2]
      have hE : ((ba (moB m)).toList == (ba (moB m')).toList) = r := by
        rw [ba_toList, ba_toList, ← unhide HR, Bool.eq_iff_iff, beq_iff_eq, decide_eq_true_iff]
        exact moB_inj e1 e2
      have hrr2 : (r == r) = true := by simp
      clear e1 e2 HT HT'
      go_wp2
      go_ret
      exact ⟨rfl, FF⟩
    · have hne : (rightE m' != 0) = true := bne_iff_ne.2 e2
      rw [e1]
      clear e1 e2
      go_wp2
      go_ret
      exact ⟨rfl, FF⟩
  · have hne : (rightE m != 0) = true := bne_iff_ne.2 e1
    clear e1
    go_wp2
    go_ret
    exact ⟨rfl, FF⟩

end Go.Proofs.Ytmmfmjaljgkobaa
