/-
  InstrRight walked.
-/
import Derived.Test.YtemkmaegjjpkjaaDoorInRefNames
import Derived.Test.YtemkmaegjjpkjaaDoorInLives
import Derived.Deep.RegionHeld3
namespace Go.Proofs.YtemkmaegjjpkjaaDoor
open Go.RowKit
set_option linter.unusedVariables false

/-- what every world of the last statement has -/
structure Good (w0 : World) (b : Nat) (op a : Int) (w : World) : Prop where
  ins : InsAt w b op a
  tab : Tab w
  fr : Fr (fun _ => False) w0 w

theorem Good.step {w0 w w' : World} {b : Nat} {op a : Int} (hf : Fr (fun _ => False) w w') (h : Good w0 b op a w) : Good w0 b op a w' :=
  ⟨h.ins.fr hf (fun h => h), h.tab.up hf, h.fr.up hf⟩
theorem Good.drew {w0 w : World} {b : Nat} {op a : Int} (h : Good w0 b op a w) : Good w0 b op a w.drew := h.step ((Fr.refl _ _).drew)

theorem Good.all {w0 w : World} {b : Nat} {op a : Int} (h : Good w0 b op a w) : w.cell? ⟨b, 0, none⟩ = some (.int .i64 op) ∧ w.cell? ⟨b, 1, none⟩ = some (.int .i64 a) ∧ Good w0 b op a w := ⟨h.ins.c0, h.ins.c1, h⟩

set_option maxHeartbeats 8000000 in
theorem iright_law (op a : Int) (n : Int) (s : ByteArray) (w : World) (h : Tab w) (ha : -9223372036854775808 ≤ a ∧ a ≤ 9223372036854775807) :
    Calls Tryd.prog 3 #[insV op a, .int .i64 n, .string s] w fun e w' => e = .returned (.bool true) ∧ Fr (fun _ => False) w w' := by
  have hf1 : Fr (fun _ => False) w (w.alloc (.cells #[.int .i64 op, .int .i64 a] 23)) := (Fr.refl _ w).alloc _
  have hr1 : InsAt (w.alloc (.cells #[.int .i64 op, .int .i64 a] 23)) w.heap.size op a := blk_new w _
  have hT1 := h.up hf1
  obtain ⟨pa, pb, hP⟩ : ∃ pa pb, parseN s.data.toList = (pa, pb) := ⟨_, _, rfl⟩
  have HP := hide hP
  clear hP
  go_enter Tryd.func3, Tryd.ntmps3
  go_wp2_with (first
    | (go_at_call 9; refine (lives_calls _ hT1).mono ?_; rintro e w2 ⟨rfl, hF2⟩; have hf2 := hf1.up hF2; have hr2 := hr1.fr hF2 (fun h => h); have hT2 := hT1.up hF2)
    | (go_at_call 10; refine (parse_calls _ _ hT2).mono ?_; rw [unhide HP]; rintro e w' ⟨rfl, rfl⟩)
    | (go_at_call 11; refine (xparse_calls _ _).mono ?_; rw [unhide HP]; rintro e w4 ⟨rfl, hF4⟩; have hG : Good w w.heap.size op a w4 := ⟨hr2.fr hF4 (fun h => h), hT2.up hF4, hf2.up hF4⟩; have hD := hG.drew; have c0 := hD.ins.c0; have c1 := hD.ins.c1; have d0 := hG.ins.c0; have d1 := hG.ins.c1))
  clear hf1 hr1 hT1 hF2 hf2 hr2 hT2 hF4 c0 c1 d0 d1 h
  have HA := hide ha
  clear ha
  go_region_held3 (fun w' => w'.cell? ⟨w.heap.size, 0, none⟩ = some (.int .i64 op) ∧ w'.cell? ⟨w.heap.size, 1, none⟩ = some (.int .i64 a) ∧ Good w w.heap.size op a w') (exact Good.all (by assumption))
    (first
    | (go_at_call 12; refine (right_calls _ _ _).mono ?_; rintro e w' ⟨rfl, hF⟩; have hS := Good.step hF (by first | assumption | (refine And.right (And.right ?_) <;> assumption)))
    | (go_at_call 13; refine (xright_calls _ _ _ (unhide HA)).mono ?_; rintro e w' ⟨rfl, hF⟩; have hS := Good.step hF (by first | assumption | (refine And.right (And.right ?_) <;> assumption)))
    | (go_at_call 14; refine (has_calls _ _).mono ?_; rintro e w' ⟨rfl, rfl⟩)
    | (go_at_call 15; refine (xhas_calls _ _).mono ?_; rintro e w' ⟨rfl, rfl⟩)
    | (go_at_call 16; refine (name_calls _ _ (Good.tab (by first | assumption | (refine And.right (And.right ?_) <;> assumption)))).mono ?_; rintro e w' ⟨rfl, rfl⟩)
    | (go_at_call 17; refine (xname_calls _ _).mono ?_; rintro e w' ⟨rfl, hF⟩; have hS := Good.step hF (by first | assumption | (refine And.right (And.right ?_) <;> assumption))))
  all_goals go_wp2
  all_goals (go_ret; exact ⟨rfl, hS.fr⟩)

end Go.Proofs.YtemkmaegjjpkjaaDoor
