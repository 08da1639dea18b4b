/-
  InstrReads walked.
-/
import Derived.Test.YtemkmaegjjpkjaaDoorInRefRead
import Derived.Test.YtemkmaegjjpkjaaDoorInLives
namespace Go.Proofs.YtemkmaegjjpkjaaDoor
open Go.RowKit
set_option linter.unusedVariables false

set_option maxHeartbeats 2000000 in
theorem ireads_law (s : ByteArray) (w : World) (h : Tab w) (hs : s.size ≤ 140737488351232) :
    Calls Tryd.prog 5 #[.string s] w fun e w' => e = .returned (.bool true) ∧ Fr (fun _ => False) w w' := by
  have h1 := fun w => readI_calls s w (by omega)
  have h2 := fun w => xread_calls s w (by omega)
  obtain ⟨op, a, n, er, hN⟩ : ∃ op a n er, readN s.data.toList = (op, a, n, er) := ⟨_, _, _, _, rfl⟩
  rw [hN] at h1 h2
  have H1 := hide h1
  have H2 := hide h2
  clear h1 h2 hN
  go_enter Tryd.func5, Tryd.ntmps5
  go_wp2_with (first
    | (go_at_call 9; refine (lives_calls _ h).mono ?_; rintro e w2 ⟨rfl, hf2⟩)
    | (go_at_call 20; refine ((unhide H1) _).mono ?_; rintro e w3 ⟨rfl, hF3⟩; have hf3 := (hf2.up hF3).alloc (.cells #[.int .i64 op, .int .i64 a] 23); have hr3 : InsAt (w3.alloc (.cells #[.int .i64 op, .int .i64 a] 23)) w3.heap.size op a := blk_new w3 _)
    | (go_at_call 21; refine ((unhide H2) _).mono ?_; rintro e w4 ⟨rfl, hF4⟩; have hf4 := (hf3.up hF4).alloc (.cells #[.int .i64 op, .int .i64 a] 23); have hr4 := hr3.fr hF4 (fun h => h); have c0 := hr4.c0; have c1 := hr4.c1; have hlt := hr4.lt))
  go_ret
  exact ⟨rfl, hf4⟩

end Go.Proofs.YtemkmaegjjpkjaaDoor
