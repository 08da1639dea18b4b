/-
  InstrSize walked.
-/
import Derived.Test.YtemkmaegjjpkjaaDoorInLives
namespace Go.Proofs.YtemkmaegjjpkjaaDoor
open Go.RowKit
set_option linter.unusedVariables false

theorem insB_size {op a : Int} (h : rightB op a = true) (hh : hasB op = true) : 2 ≤ (insB op a).length ∧ (insB op a).length ≤ 11 ∧ (0 ≤ a → a ≤ 63 → (insB op a).length = 2) := by
  have hp := Lib.uvarint_pos (Lib.zigzag a)
  refine ⟨?_, insB_length_le op a (.inr (right_fits h)), fun h0 h1 => ?_⟩
  · unfold insB; rw [hh]; simp only [if_true, List.length_cons]; omega
  · unfold insB; rw [hh]
    have hz : Lib.zigzag a < 128 := by unfold Lib.zigzag; split <;> omega
    simp only [if_true, List.length_cons, Lib.uvarint_small hz, List.length_nil]

theorem insB_head {op a : Int} (h : rightB op a = true) (hlt : 0 < (ba (insB op a)).size) : ((ba (insB op a))[0].toNat : Int) = op := by
  have : (ba (insB op a))[0] = op.toNat.toUInt8 := ba_get _ 0 hlt
  rw [this]
  exact op_byte (right_isOp h)

theorem u8_self {op : Int} (h0 : 0 ≤ op) (h1 : op < 27) : IntKind.u8.wrap op = op := by
  rw [IntKind.wrap_u8]
  omega

theorem ret_bool {b c : Bool} (h : b = c) : Ending.returned (.bool b) = .returned (.bool c) := by rw [h]

set_option maxHeartbeats 2000000 in
theorem isize_law (op a : Int) (w : World) (h : Tab w) :
    Calls Tryd.prog 8 #[insV op a] w fun e w' => e = .returned (.bool true) ∧ Fr (fun _ => False) w w' := by
  have hf1 : Fr (fun _ => False) w (w.alloc (.cells #[.int .i64 op, .int .i64 a] 23)) := (Fr.refl _ w).alloc _
  have hr1 : InsAt (w.alloc (.cells #[.int .i64 op, .int .i64 a] 23)) w.heap.size op a := blk_new w _
  have hT1 := h.up hf1
  cases hq : rightB op a
  · have HB := hide (fun w => bytesI_no op a w hq)
    have HQ := hide hq
    clear hq
    go_enter Tryd.func8, Tryd.ntmps8
    go_wp2_with (first
      | (go_at_call 9; refine (lives_calls _ hT1).mono ?_; rintro e w2 ⟨rfl, hF2⟩; have hf2 := hf1.up hF2; have hr2 := hr1.fr hF2 (fun h => h); have c0 := hr2.c0; have c1 := hr2.c1)
      | (go_at_call 18; refine ((unhide HB) _).mono ?_; rintro e w3 ⟨rfl, hF3⟩; have hf3 := hf2.up hF3; have hr3 := hr2.fr hF3 (fun h => h); have d0 := hr3.c0; have d1 := hr3.c1)
      | (go_at_call 12; refine (right_calls _ _ _).mono ?_; rw [unhide HQ]; rintro e w4 ⟨rfl, hF4⟩; have hf4 := hf3.up hF4))
    go_ret
    exact ⟨rfl, hf4⟩
  · have hby := fun w => bytesI_ok op a w hq
    cases hh : hasB op
    · have hl : (ba (insB op a)).size = 1 := by rw [ba_size]; unfold insB; rw [hh]; rfl
      have ha : a = 0 := by
        have := no_number hh
        have := (rightB_iff op a).1 hq
        omega
      have HH := hide hh
      generalize ba (insB op a) = t at *
      have HB := hide hby
      clear hq hh hby
      subst ha
      have hl' : (t.size : Int) = 1 := by omega
      go_enter Tryd.func8, Tryd.ntmps8
      go_wp2_with (first
        | (go_at_call 9; refine (lives_calls _ hT1).mono ?_; rintro e w2 ⟨rfl, hF2⟩; have hf2 := hf1.up hF2; have hr2 := hr1.fr hF2 (fun h => h); have c0 := hr2.c0; have c1 := hr2.c1)
        | (go_at_call 18; refine ((unhide HB) _).mono ?_; rintro e w3 ⟨rfl, hF3⟩; have hf3 := hf2.up hF3; have hr3 := hr2.fr hF3 (fun h => h); have d0 := hr3.c0; have d1 := hr3.c1)
        | (go_at_call 14; refine (has_calls _ _).mono ?_; rw [unhide HH]; rintro e w' ⟨rfl, rfl⟩))
      all_goals first | omega | (go_ret; exact ⟨by simp, hf3⟩)
    · obtain ⟨l2, l11, l63⟩ := insB_size hq hh
      have hsz := ba_size (insB op a)
      have hlt : 0 < (ba (insB op a)).size := by omega
      have hhd := insB_head hq hlt
      have HH := hide hh
      obtain ⟨o0, o1⟩ := (isOpB_iff op).1 (right_isOp hq)
      rw [← hsz] at l2 l11 l63
      clear hsz
      generalize ba (insB op a) = t at *
      have HB := hide hby
      clear hq hh hby
      have m2 : (2 : Int) ≤ (t.size : Int) := by omega
      have m11 : (t.size : Int) ≤ 11 := by omega
      rcases (by omega : a < 0 ∨ (¬ a < 0 ∧ 63 < a) ∨ (¬ a < 0 ∧ ¬ 63 < a ∧ (t.size : Int) = 2)) with h1 | ⟨h1, h2⟩ | ⟨h1, h2, h3⟩
      all_goals
        clear l63
        go_enter Tryd.func8, Tryd.ntmps8
        go_wp2_with (first
          | (go_at_call 9; refine (lives_calls _ hT1).mono ?_; rintro e w2 ⟨rfl, hF2⟩; have hf2 := hf1.up hF2; have hr2 := hr1.fr hF2 (fun h => h); have c0 := hr2.c0; have c1 := hr2.c1)
          | (go_at_call 18; refine ((unhide HB) _).mono ?_; rintro e w3 ⟨rfl, hF3⟩; have hf3 := hf2.up hF3; have hr3 := hr2.fr hF3 (fun h => h); have d0 := hr3.c0; have d1 := hr3.c1)
          | (go_at_call 14; refine (has_calls _ _).mono ?_; rw [unhide HH]; rintro e w' ⟨rfl, rfl⟩))
        go_quiet (fail)
        go_wp2
        go_ret
        exact ⟨ret_bool (by first | rfl | simp [u8_self o0 o1]), hf3.drewN _⟩

end Go.Proofs.YtemkmaegjjpkjaaDoor
