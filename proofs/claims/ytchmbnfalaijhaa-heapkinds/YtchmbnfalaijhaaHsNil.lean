/-
  The calls of a heap that isn't there, and of a heap that has just been made.
-/
import Derived.Test.YtchmbnfalaijhaaHsPut
namespace Go.Proofs.Ytchmbnfalaijhaa.Hs
open Go.RowKit
set_option linter.unusedVariables false
set_option maxRecDepth 8192

theorem hnew_calls (w : World) :
    Calls Try.prog 36 #[] w fun e w' => e = .returned (.pointer (some ⟨w.heap.size, 0, none⟩)) ∧ IsHp w' w.heap.size w.heap.size w.heap.size 0 [] ∧ Fr (fun _ => False) w w' := by
  go_enter Try.func36, Try.ntmps36
  go_wp2
  go_ret
  exact ⟨rfl, .inl ⟨rfl, rfl, rfl, rfl, blk_new w _⟩, (Fr.refl _ w).alloc _⟩

theorem nput_calls (t : Int) (x : ByteArray) (w : World) :
    Calls Try.prog 37 #[.pointer none, .int .i64 t, .string x] w fun e w' => e = .returned (.int .i64 0) ∧ w = w' := by
  go_enter Try.func37, Try.ntmps37
  go_wp2
  go_ret
  exact ⟨rfl, rfl⟩

theorem ncancel_calls (t : Int) (w : World) :
    Calls Try.prog 38 #[.pointer none, .int .i64 t] w fun e w' => e = .returned (.bool false) ∧ w = w' := by
  go_enter Try.func38, Try.ntmps38
  go_wp2
  go_ret
  exact ⟨rfl, rfl⟩

theorem nlen_calls (w : World) :
    Calls Try.prog 41 #[.pointer none] w fun e w' => e = .returned (.int .i64 0) ∧ w = w' := by
  go_enter Try.func41, Try.ntmps41
  go_wp2
  go_ret
  exact ⟨rfl, rfl⟩

theorem nnext_calls (w : World) :
    Calls Try.prog 40 #[.pointer none] w fun e w' => e = .returned (.tuple #[.int .i64 0, .bool false]) ∧ w = w' := by
  go_enter Try.func40, Try.ntmps40
  go_wp2_with (go_at_call 41; refine (nlen_calls _).mono ?_; rintro e w' ⟨rfl, rfl⟩)
  go_ret2
  exact ⟨rfl, rfl⟩

theorem npop_calls (t : Int) (w : World) :
    Calls Try.prog 39 #[.pointer none, .int .i64 t] w fun e w' => e = .returned (.tuple #[.string ⟨#[]⟩, .int .i64 0, .bool false]) ∧ w = w' := by
  go_enter Try.func39, Try.ntmps39
  go_wp2_with (go_at_call 40; refine (nnext_calls _).mono ?_; rintro e w' ⟨rfl, rfl⟩)
  go_ret3
  exact ⟨rfl, rfl⟩

end Go.Proofs.Ytchmbnfalaijhaa.Hs
