/-
  lives: push -1 there and back.
-/
import Derived.Test.YtemkmaegjjpkjaaDoorInBytes
namespace Go.Proofs.YtemkmaegjjpkjaaDoor
open Go.RowKit
set_option linter.unusedVariables false

theorem lv_ins : insB 1 (-1) = [1, 1] := by
  unfold insB
  rw [show hasB 1 = true from rfl, show Lib.zigzag (-1) = 1 from rfl, Lib.uvarint_small (by omega)]
  rfl

theorem lv_bytes (w : World) :
    Calls Tryd.prog 18 #[.agg #[.int .i64 1, .int .i64 (-1)]] w fun e w' => e = .returned (.tuple #[.string ⟨#[1, 1]⟩, .int .i64 0]) ∧ Fr (fun _ => False) w w' := by
  have := bytesI_ok 1 (-1) w (by decide)
  rw [lv_ins] at this
  exact this

theorem lv_readN : readN [1, 1, 120] = (1, -1, 2, 0) := by
  have := readN_insB (op := 1) (a := -1) (by decide) [120]
  rw [lv_ins] at this
  exact this

theorem lv_read (w : World) :
    Calls Tryd.prog 20 #[.string ((⟨#[1, 1]⟩ : ByteArray) ++ ⟨#[120]⟩)] w fun e w' => e = .returned (.tuple #[.agg #[.int .i64 1, .int .i64 (-1)], .int .i64 2, .int .i64 0]) ∧ Fr (fun _ => False) w w' := by
  have := readI_calls ((⟨#[1, 1]⟩ : ByteArray) ++ ⟨#[120]⟩) w (by decide)
  rw [show ((⟨#[1, 1]⟩ : ByteArray) ++ ⟨#[120]⟩).data.toList = [1, 1, 120] from by decide, lv_readN] at this
  exact this

theorem lv_parse (w : World) (h : Tab w) :
    Calls Tryd.prog 10 #[.string ⟨#[114, 101, 99, 118]⟩] w fun e w' => e = .returned (.tuple #[.int .i64 21, .bool true]) ∧ w = w' := by
  have := parse_calls ⟨#[114, 101, 99, 118]⟩ w h
  rw [show (⟨#[114, 101, 99, 118]⟩ : ByteArray).data.toList = nm 21 from rfl, parseN_nm 21 (by omega)] at this
  exact this

theorem Tab.up {w w' : World} (h : Tab w) (hf : Fr (fun _ => False) w w') : Tab w' := h.fr hf (fun h => h)

theorem Fr.up {a b c : World} (h : Fr (fun _ => False) a b) (k : Fr (fun _ => False) b c) : Fr (fun _ => False) a c := h.trans k (fun _ _ h => h) (fun _ _ h => h)

set_option maxHeartbeats 2000000 in
theorem lives_calls (w : World) (h : Tab w) :
    Calls Tryd.prog 9 #[] w fun e w' => e = .returned (.bool true) ∧ Fr (fun _ => False) w w' := by
  go_enter Tryd.func9, Tryd.ntmps9
  go_wp2_with (first
    | (go_at_call 18; refine (lv_bytes _).mono ?_; rintro e w1 ⟨rfl, hF1⟩; have h1 := h.up hF1)
    | (go_at_call 20; refine (lv_read _).mono ?_; rintro e w2 ⟨rfl, hF2⟩; have h2 := h1.up hF2; have hf2 := hF1.up hF2; have hf3 : Fr (fun _ => False) w (w2.alloc (.cells #[.int .i64 1, .int .i64 (-1)] 23)) := hf2.alloc _; have h3 : Tab (w2.alloc (.cells #[.int .i64 1, .int .i64 (-1)] 23)) := h.up hf3)
    | (go_at_call 10; refine (lv_parse _ h3).mono ?_; rintro e w' ⟨rfl, rfl⟩))
  all_goals (go_ret; exact ⟨rfl, hf3⟩)

end Go.Proofs.YtemkmaegjjpkjaaDoor
