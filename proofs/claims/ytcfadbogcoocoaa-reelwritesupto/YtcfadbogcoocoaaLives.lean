/-
  lives: 300 is written and read.
-/
import Derived.Test.YtcfadbogcoocoaaWrCalls
import Derived.Test.YtcfadbogcoocoaaRdCalls
namespace Go.Proofs.Ytcfadbogcoocoaa
open Go.RowKit
set_option linter.unusedVariables false

theorem uv300 : Lib.uvarint 300 = [172, 2] := by
  rw [Lib.uvarint_big (by omega), Lib.uvarint_small (by omega)]; rfl

theorem put300 : put (max 2 0) ([], 0) (vb (300 : Int).toNat) = (ints [172, 2], 0) := by
  rw [show (300 : Int).toNat = 300 from rfl, vb_ints, uv300]; decide

theorem rnum300 : rnum [172, 2] 0 = (300, [], 0) := by decide

set_option maxHeartbeats 1000000 in
theorem lives_calls (w : World) : Calls Try.prog 10 #[] w fun e w' => e = .returned (.bool true) ∧ Below w.heap.size w w' := by
  go_enter Try.func10, Try.ntmps10
  go_wp2_with (go_at_call 11; refine (new_calls 2 w (by omega) (by omega)).mono ?_; rintro e w1 ⟨rfl, hW1, hF1⟩)
  go_wp2_with (go_at_call 28; refine (num_calls hW1 300 (by omega) (by omega) (by omega) (by omega) (by simp) (.inl (by simp))).mono ?_; rintro e w2 ⟨rfl, v2, hW2', hF2⟩; have hW2 := hW2'; clear hW2'; rw [put300] at hW2)
  go_wp2_with (go_at_call 16; refine (done_ok hW2).mono ?_; rintro e w3 ⟨rfl, rfl⟩)
  go_wp2_with (go_at_call 18; refine (read_calls _ _).mono ?_; rintro e w4 ⟨rfl, hR4, hF4⟩)
  go_wp2_with (go_at_call 24; refine (rnum_calls hR4 (by simp)).mono ?_; rw [rnum300]; rintro e w5 ⟨rfl, hR5, hF5⟩)
  go_wp2_with (go_at_call 21; refine (end_calls hR5).mono ?_; rintro e w6 ⟨rfl, rfl⟩; rw [show rend [] 0 = 0 from rfl])
  go_ret
  refine ⟨rfl, ?_⟩
  have b1 : Below w.heap.size w w1 := hF1.below (Nat.le_refl _) (fun _ _ h => h)
  have b2 : Below w.heap.size w1 w2 := hF2.fr.below hF1.size (fun k hk h => by rcases h with h | h; omega; simp [Value.ownBlock] at h)
  have b4 : Below w.heap.size w2 w4 := hF4.below (Nat.le_trans hF1.size hF2.fr.size) (fun _ _ h => h)
  have b5 : Below w.heap.size w4 w5 := hF5.below (Nat.le_trans (Nat.le_trans hF1.size hF2.fr.size) hF4.size) (fun k hk h => by have := hF1.size; have := hF2.fr.size; omega)
  exact ((b1.trans b2).trans b4).trans b5

end Go.Proofs.Ytcfadbogcoocoaa
