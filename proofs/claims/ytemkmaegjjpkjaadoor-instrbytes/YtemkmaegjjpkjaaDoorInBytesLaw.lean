/-
  InstrBytes walked.
-/
import Derived.Test.YtemkmaegjjpkjaaDoorInRefBytes
import Derived.Test.YtemkmaegjjpkjaaDoorInLives
namespace Go.Proofs.YtemkmaegjjpkjaaDoor
open Go.RowKit
set_option linter.unusedVariables false

set_option maxHeartbeats 2000000 in
theorem ibytes_law (op a : Int) (w : World) (h : Tab w) (ha : -9223372036854775808 ≤ a ∧ a ≤ 9223372036854775807) :
    Calls Tryd.prog 4 #[insV op a] w fun e w' => e = .returned (.bool true) ∧ Fr (fun _ => False) w w' := by
  have hf1 : Fr (fun _ => False) w (w.alloc (.cells #[.int .i64 op, .int .i64 a] 23)) := (Fr.refl _ w).alloc _
  have hr1 : InsAt (w.alloc (.cells #[.int .i64 op, .int .i64 a] 23)) w.heap.size op a := blk_new w _
  have hT1 := h.up hf1
  have hx := fun w => xbytes_calls op a w ha
  have hy : ∃ (t : ByteArray) (er : Int), (∀ w, Calls Tryd.prog 18 #[insV op a] w fun e w' => e = .returned (.tuple #[.string t, .int .i64 er]) ∧ Fr (fun _ => False) w w') ∧
      (∀ w, Calls Tryd.prog 19 #[insV op a] w fun e w' => e = .returned (.tuple #[.string t, .int .i64 er]) ∧ Fr (fun _ => False) w w') := by
    cases hq : rightB op a
    · rw [hq] at hx
      exact ⟨_, _, fun w => bytesI_no op a w hq, hx⟩
    · rw [hq] at hx
      exact ⟨_, _, fun w => bytesI_ok op a w hq, hx⟩
  obtain ⟨t, er, h1, h2⟩ := hy
  have H1 := hide h1
  have H2 := hide h2
  clear h1 h2 hx ha
  go_enter Tryd.func4, Tryd.ntmps4
  go_wp2_with (first
    | (go_at_call 9; refine (lives_calls _ hT1).mono ?_; rintro e w2 ⟨rfl, hF2⟩; have hf2 := hf1.up hF2; have hr2 := hr1.fr hF2 (fun h => h); have c0 := hr2.c0; have c1 := hr2.c1)
    | (go_at_call 18; refine ((unhide H1) _).mono ?_; rintro e w3 ⟨rfl, hF3⟩; have hf3 := hf2.up hF3; have hr3 := hr2.fr hF3 (fun h => h); have d0 := hr3.c0; have d1 := hr3.c1)
    | (go_at_call 19; refine ((unhide H2) _).mono ?_; rintro e w4 ⟨rfl, hF4⟩; have hf4 := hf3.up hF4))
  go_ret
  exact ⟨rfl, hf4⟩

end Go.Proofs.YtemkmaegjjpkjaaDoor
