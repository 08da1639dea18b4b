/-
  The law ModuleReads: what any bytes are read as, or why not, is what the document says.
-/
import Derived.Test.YtkcljnfalimlgaaMoRefRdR
import Derived.Test.YtkcljnfalimlgaaMoLives
import Derived.Test.YtkcljnfalimlgaaMoRefSameM
namespace Go.Proofs.Ytkcljnfalimlgaa
open Go.RowKit
set_option linter.unusedVariables false
set_option maxRecDepth 100000

set_option maxHeartbeats 1000000 in
theorem mreads_law (t : ByteArray) (w : World) (ht : t.size ≤ 9223372036854775807) :
    Calls Try.prog 9 #[.string t] w fun e w' => e = .returned (.bool true) ∧ Q0 w w' := by
  have HY := hide (readY_readX t.data.toList)
  go_enter Try.func9, Try.ntmps9
  go_wp2_with fail
  refine (mlives_calls _).mono ?_
  rintro e w2 ⟨rfl, hF2⟩
  go_wp2_with fail
  refine (mread_calls t _ ht).mono ?_
  rintro e w3 ⟨a3, n3, rfl, hA3, hF3⟩
  have HA3 := hide hA3
  clear hA3
  go_wp2_with fail
  refine (xmread_calls t _ ht).mono ?_
  rw [unhide HY]
  rintro e w4 ⟨a4, n4, c4, rfl, hA4, hF4⟩
  have q3 : Q0 w3 (w3.alloc (.cells #[.slice a3 n3 n3] 24)) := (Fr.refl _ w3).alloc _
  have q4 : Q0 w4 (w4.alloc (.cells #[.slice a4 n4 c4] 24)) := (Fr.refl _ w4).alloc _
  have HA5 := hide (AcA.fr (AcA.fr (AcA.fr (unhide HA3) q3 q0_no) hF4 q0_no) q4 q0_no)
  have HB5 := hide (AcA.fr hA4 q4 q0_no)
  have b3 := q4.blk (hF4.blk (blk_new w3 (.cells #[.slice a3 n3 n3] 24)) (fun h => h)) (fun h => h)
  have b4 := blk_new w4 (.cells #[.slice a4 n4 c4] 24)
  have c3 := cell_at b3 0
  have d4 := cell_at b4 0
  simp at c3 d4
  have FF := ((hF2.then hF3).then q3).then (hF4.then q4)
  have h33 : ((readX t.data.toList).2 == (readX t.data.toList).2) = true := by simp
  generalize (readX t.data.toList).2 = ev at *
  generalize (readX t.data.toList).1 = m at *
  clear hA4 b3 b4 q3 q4 HA3
  go_wp2_with fail
  have HS := hide (xsame_calls (unhide HA5) (unhide HB5) n3 c4)
  rw [show decide (m = m) = true from by simp] at HS
  refine (unhide HS).mono ?_
  rintro e w6 ⟨rfl, hF6⟩
  go_wp2
  go_ret
  exact ⟨rfl, FF.then hF6⟩

end Go.Proofs.Ytkcljnfalimlgaa
