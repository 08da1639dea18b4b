/-
  ModuleBytes walked.
-/
import Derived.Test.YtmmfmjaljgkobaaMoLives
import Derived.Test.YtmmfmjaljgkobaaMoRefBytes
namespace Go.Proofs.Ytmmfmjaljgkobaa
open Go.RowKit
set_option linter.unusedVariables false
set_option maxRecDepth 8192

set_option maxHeartbeats 1000000 in
theorem mbytes_law {hi : Nat} {w : World} {a : Option Addr} {n : Nat} {m : List Ac} (h : AcA 0 hi w a n m) (hh : hi ≤ w.heap.size) (c : Nat) :
    Calls Try.prog 3 #[moV a n c] w fun e w' => e = .returned (.bool true) ∧ Q0 w w' := by
  have q1 : Q0 w (w.alloc (.cells #[.slice a n c] 24)) := (Fr.refl _ w).alloc _
  have b1 : (w.alloc (.cells #[.slice a n c] 24)).heap[w.heap.size]? = some (.cells #[.slice a n c] 24 (0, 0)) := blk_new w _
  have HA := hide (AcA.fr h q1 q0_no)
  have HB := hide b1
  have z1 := q1.size
  clear h b1
  go_enter Try.func3, Try.ntmps3
  go_wp2_with fail
  refine (mlives_calls _).mono ?_
  rintro e w2 ⟨rfl, hF2⟩
  have F2 := q1.then hF2
  have z2 := hF2.size
  generalize w.alloc (.cells #[.slice a n c] 24) = w1 at *
  have k2 := cell_at (hF2.blk (unhide HB) (fun h => h)) 0
  simp at k2
  go_wp2_with fail
  refine (mbytes_calls (AcA.fr (unhide HA) hF2 q0_no) (by omega) _).mono ?_
  rintro e w3 ⟨rfl, hF3⟩
  have G3 := hF2.then hF3
  have z3 := G3.size
  have k3 := cell_at (G3.blk (unhide HB) (fun h => h)) 0
  simp at k3
  clear k2
  go_wp2_with fail
  refine (xmbytes_calls (AcA.fr (unhide HA) G3 q0_no) (by omega) _).mono ?_
  rintro e w4 ⟨rfl, hF4⟩
  have G4 := G3.then hF4
  have HA4 := hide (AcA.fr (unhide HA) G4 q0_no)
  have k4 := cell_at (G4.blk (unhide HB) (fun h => h)) 0
  simp at k4
  have F4 := q1.then G4
  have HR := hide (fun (w' : World) (hq : Q0 w4 w') => mright_calls (AcA.fr (unhide HA4) hq q0_no) c)
  have HX := hide (fun (w' : World) (hq : Q0 w4 w') => xmright_calls (AcA.fr (unhide HA4) hq q0_no) c)
  have e1 : ((bytesT m).toList == (bytesT m).toList) = true := by simp
  have e2 : (rightE m == rightE m) = true := by simp
  generalize bytesT m = bt at *
  generalize rightE m = re at *
  have SG : ∀ w', Q0 w4 w' → w'.cell? ⟨w.heap.size, 0, none⟩ = some (.slice a n c) ∧ Q0 w4 w' := fun w' hq => ⟨cell_fr hq (fun h => h) k4, hq⟩
  have hq0 : Q0 w4 w4 := Fr.refl _ _
  have hqd : Q0 w4 w4.drew := (Fr.refl _ _).drew
  clear k3 hF2 hF3 hF4 G3 G4 HA HA4
  go_wp2
  go_region_held3 (fun w' => w'.cell? ⟨w.heap.size, 0, none⟩ = some (.slice a n c) ∧ Q0 w4 w') ((refine SG _ ?_; assumption))
    (first
    | (go_at_call 12; refine ((unhide HR) _ (by first | assumption | (refine And.right ?_ <;> assumption))).mono ?_; rintro e w' ⟨rfl, hF⟩; have hq := Fr.then (by first | assumption | (refine And.right ?_ <;> assumption)) hF)
    | (go_at_call 13; refine ((unhide HX) _ (by first | assumption | (refine And.right ?_ <;> assumption))).mono ?_; rintro e w' ⟨rfl, hF⟩; have hq := Fr.then (by first | assumption | (refine And.right ?_ <;> assumption)) hF))
  all_goals go_wp2
  all_goals (go_ret; exact ⟨rfl, F4.then (by first | assumption | (refine And.right ?_ <;> assumption))⟩)

end Go.Proofs.Ytmmfmjaljgkobaa
