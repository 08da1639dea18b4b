/-
  One actor that halts: the head of the laws of package module.
-/
import Derived.Test.YthdpgachdegcgaaMoRdMo
import Derived.Test.YthdpgachdegcgaaMoSameM
namespace Go.Proofs.Ythdpgachdegcgaa
open Go.RowKit
set_option linter.unusedVariables false
set_option maxRecDepth 8192

def m0 : List Ac := [⟨[], [], [], [(0, 0)], []⟩]
theorem m0_right : rightE m0 = 0 := by decide
theorem uv0 : Lib.uvarint 0 = [0] := by rw [Lib.uvarint]; rfl
theorem uv1 : Lib.uvarint 1 = [1] := by rw [Lib.uvarint]; rfl
theorem m0_bytes : moB m0 = [67, 66, 49, 1, 0, 0, 0, 1, 0, 0] := by
  show magB ++ (Lib.uvarint 1 ++ ((Lib.uvarint 0 ++ [] ++ (Lib.uvarint 0 ++ []) ++ (Lib.uvarint 0 ++ []) ++ (Lib.uvarint 1 ++ (insB 0 0 ++ [])) ++ (Lib.uvarint 0 ++ [])) ++ [])) = _
  rw [uv0, uv1]; rfl
theorem m0_text : bytesT m0 = ⟨#[67, 66, 49, 1, 0, 0, 0, 1, 0, 0]⟩ := by
  unfold bytesT; rw [if_pos m0_right, m0_bytes]; rfl
theorem m0_read : readX [67, 66, 49, 1, 0, 0, 0, 1, 0, 0] = (m0, 0) := by rw [← m0_bytes]; exact readX_whole m0_right

theorem m0_here {w : World} {b c : Nat} (h1 : w.heap[b]? = some (.cells #[.int .i64 0, .int .i64 0] 37 (0, 0)))
    (h2 : w.heap[c]? = some (.cells #[.slice none 0 0, .slice none 0 0, .slice none 0 0, .slice (some ⟨b, 0, none⟩) 1 1, .slice none 0 0] 42 (0, 0))) : AcA 0 w.heap.size w (some ⟨c, 0, none⟩) 1 m0 := by
  refine ⟨rfl, by omega, .inr ⟨c, 0, rfl, Nat.zero_le _, lt_of_blk h2, fun i x hx => ?_⟩⟩
  match i, hx with
  | 0, hx =>
    simp only [m0, List.getElem?_cons_zero, Option.some.injEq] at hx
    subst hx
    refine ⟨[.slice none 0 0, .slice none 0 0, .slice none 0 0, .slice (some ⟨b, 0, none⟩) 1 1, .slice none 0 0], fun j v hv => ?_, mk5 (none, 0, 0) (none, 0, 0) (none, 0, 0) (some ⟨b, 0, none⟩, 1, 1) (none, 0, 0), rfl, ⟨Arr.nil _ _ _ _ _ _, Arr.nil _ _ _ _ _ _, Arr.nil _ _ _ _ _ _, ?_, Arr.nil _ _ _ _ _ _, Nat.le_refl _, Nat.zero_le _⟩⟩
    · rw [cell_at h2]; simpa using hv
    · refine ⟨rfl, by show (1 : Nat) ≤ _; omega, .inr ⟨b, 0, rfl, Nat.zero_le _, lt_of_blk h1, fun i x hx => ?_⟩⟩
      match i, hx with
      | 0, hx =>
        simp only [List.getElem?_cons_zero, Option.some.injEq] at hx
        subst hx
        exact ⟨[.int .i64 0, .int .i64 0], fun j v hv => by rw [cell_at h1]; simpa using hv, rfl, by constructor <;> omega, by constructor <;> omega⟩

set_option maxHeartbeats 1000000 in
theorem mlives_calls (w : World) : Calls Try.prog 5 #[] w fun e w' => e = .returned (.bool true) ∧ Q0 w w' := by
  have q1 : Q0 w (((w.alloc (.cells #[.int .i64 0, .int .i64 0] 37)).alloc (.cells #[.slice none 0 0, .slice none 0 0, .slice none 0 0, .slice (some ⟨w.heap.size, 0, none⟩) 1 1, .slice none 0 0] 42)).alloc (.cells #[.slice (some ⟨w.heap.size + 1, 0, none⟩) 1 1] 25)) := (((Fr.refl _ w).alloc _).alloc _).alloc _
  have b1 : (((w.alloc (.cells #[.int .i64 0, .int .i64 0] 37)).alloc (.cells #[.slice none 0 0, .slice none 0 0, .slice none 0 0, .slice (some ⟨w.heap.size, 0, none⟩) 1 1, .slice none 0 0] 42)).alloc (.cells #[.slice (some ⟨w.heap.size + 1, 0, none⟩) 1 1] 25)).heap[w.heap.size]? = some (.cells #[.int .i64 0, .int .i64 0] 37 (0, 0)) := blk_alloc (blk_alloc (blk_new w _))
  have b2 : (((w.alloc (.cells #[.int .i64 0, .int .i64 0] 37)).alloc (.cells #[.slice none 0 0, .slice none 0 0, .slice none 0 0, .slice (some ⟨w.heap.size, 0, none⟩) 1 1, .slice none 0 0] 42)).alloc (.cells #[.slice (some ⟨w.heap.size + 1, 0, none⟩) 1 1] 25)).heap[w.heap.size + 1]? = some (.cells #[.slice none 0 0, .slice none 0 0, .slice none 0 0, .slice (some ⟨w.heap.size, 0, none⟩) 1 1, .slice none 0 0] 42 (0, 0)) := by
    refine blk_alloc ?_
    have := blk_new (w.alloc (.cells #[.int .i64 0, .int .i64 0] 37)) (.cells #[.slice none 0 0, .slice none 0 0, .slice none 0 0, .slice (some ⟨w.heap.size, 0, none⟩) 1 1, .slice none 0 0] 42)
    simpa using this
  have b3 : (((w.alloc (.cells #[.int .i64 0, .int .i64 0] 37)).alloc (.cells #[.slice none 0 0, .slice none 0 0, .slice none 0 0, .slice (some ⟨w.heap.size, 0, none⟩) 1 1, .slice none 0 0] 42)).alloc (.cells #[.slice (some ⟨w.heap.size + 1, 0, none⟩) 1 1] 25)).heap[w.heap.size + 1 + 1]? = some (.cells #[.slice (some ⟨w.heap.size + 1, 0, none⟩) 1 1] 25 (0, 0)) := by
    have := blk_new ((w.alloc (.cells #[.int .i64 0, .int .i64 0] 37)).alloc (.cells #[.slice none 0 0, .slice none 0 0, .slice none 0 0, .slice (some ⟨w.heap.size, 0, none⟩) 1 1, .slice none 0 0] 42)) (.cells #[.slice (some ⟨w.heap.size + 1, 0, none⟩) 1 1] 25)
    simpa using this
  have HA := hide (m0_here b1 b2)
  have B3 := hide b3
  have HRd := hide m0_read
  clear b1 b2 b3
  go_enter Try.func5, Try.ntmps5
  go_wp2_with fail
  refine (mbytes_calls (unhide HA) (Nat.le_refl _) _).mono ?_
  rw [m0_text, m0_right]
  rintro e w2 ⟨rfl, hF2⟩
  have HA2 := hide (AcA.fr (unhide HA) hF2 q0_no)
  have B32 := hide (hF2.blk (unhide B3) (fun h => h))
  have F2 := q1.then hF2
  have z2 := hF2.size
  go_wp2_with fail
  refine (mread_calls _ _ (by show 10 ≤ _; omega)).mono ?_
  rw [show (⟨#[67, 66, 49, 1, 0, 0, 0, 1, 0, 0]⟩ : ByteArray).data.toList = [67, 66, 49, 1, 0, 0, 0, 1, 0, 0] from rfl, unhide HRd]
  rintro e w3 ⟨a, n, rfl, hA3, hF3⟩
  have q4 : Q0 w3 (w3.alloc (.cells #[.slice a n n] 25)) := (Fr.refl _ w3).alloc _
  have HA3 := hide (AcA.fr hA3 q4 q0_no)
  have HA4 := hide (AcA.fr (AcA.fr (unhide HA2) hF3 q0_no) q4 q0_no)
  have B33 := hide (hF3.blk (unhide B32) (fun h => h))
  have k3 := cell_at (unhide B33) 0
  have hl3 := lt_of_blk (unhide B33)
  simp at k3
  have F4 := (F2.then hF3).then q4
  have b4 : (w3.alloc (.cells #[.slice a n n] 25)).heap[w.heap.size + 1 + 1]? = some (.cells #[.slice (some ⟨w.heap.size + 1, 0, none⟩) 1 1] 25 (0, 0)) := blk_alloc (unhide B33)
  have B4 := hide b4
  clear hA3 hF3 hF2 b4
  go_wp2_with fail
  refine (msame_calls (unhide HA4) (unhide HA3) _ _).mono ?_
  rw [show decide (m0 = m0) = true from decide_eq_true rfl]
  rintro e w5 ⟨rfl, hF5⟩
  have k5 := cell_at (hF5.blk (unhide B4) (fun h => h)) 0
  simp at k5
  go_wp2_with fail
  refine (msame_calls (AcA.fr (unhide HA4) hF5 q0_no) (Arr.nil (AcV 0 0) 5 0 0 _ none) _ _).mono ?_
  rw [show decide (m0 = []) = false from decide_eq_false (by simp [m0])]
  rintro e w6 ⟨rfl, hF6⟩
  go_wp2
  go_ret
  exact ⟨rfl, (F4.then hF5).then hF6⟩

end Go.Proofs.Ythdpgachdegcgaa
