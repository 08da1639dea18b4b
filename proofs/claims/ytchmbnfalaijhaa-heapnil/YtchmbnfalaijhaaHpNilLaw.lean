/-
  HeapNil walked.
-/
import Derived.Test.YtchmbnfalaijhaaHpGiven
namespace Go.Proofs.Ytchmbnfalaijhaa
open Go.RowKit
set_option linter.unusedVariables false
set_option maxRecDepth 100000

theorem ngiven (w : World) :
    Calls Try.prog 34 #[.pointer none, .slice none 0 0] w fun e w' => e = .returned (.bool true) ∧ Fr (fun _ => False) w w' :=
  given_calls none [] [] w (by simp) (Arr.nil _ _ _ _ _) rfl (fun W _ => nsorted W)

set_option maxHeartbeats 4000000 in
theorem nil_law (s : Stp) (w : World) :
    Calls Try.prog 9 #[.agg #[.int .i64 s.c, .int .i64 s.t, .int .i64 s.x]] w fun e w' => e = .returned (.bool true) ∧ Fr (fun _ => False) w w' := by
  have hO := blk_new w (.cells #[.int .i64 s.c, .int .i64 s.t, .int .i64 s.x] 51)
  go_enter Try.func9, Try.ntmps9
  go_wp2_with fail
  refine (lives_calls _).mono ?_
  rintro e w1 ⟨rfl, hF1⟩
  have hO1 := hF1.blk hO (fun h => h)
  have hFa : Fr (fun _ => False) w w1 := ((Fr.refl (fun _ => False) w).alloc _).trans hF1 (fun _ _ h => h) (fun _ _ h => h)
  clear hF1 hO
  have c1 := cell_at hO1 1
  have c2 := cell_at hO1 2
  simp at c1 c2
  go_wp2_with (first
    | (go_at_call 29; refine (npop_calls _ _).mono ?_; rintro e w2 ⟨rfl, rfl⟩)
    | (go_at_call 31; refine (nnext_calls _).mono ?_; rintro e w2 ⟨rfl, rfl⟩)
    | (go_at_call 25; refine (nput_calls _ _ _).mono ?_; rintro e w2 ⟨rfl, rfl⟩)
    | (go_at_call 27; refine (ncancel_calls _ _).mono ?_; rintro e w2 ⟨rfl, rfl⟩)
    | (go_at_call 33; refine (nlen_calls _).mono ?_; rintro e w2 ⟨rfl, rfl⟩)
    | (go_at_call 34; refine (ngiven _).mono ?_; rintro e w2 ⟨rfl, hF2⟩))
  go_ret
  exact ⟨by simp, hFa.trans hF2 (fun _ _ h => h) (fun _ _ h => h)⟩

end Go.Proofs.Ytchmbnfalaijhaa
