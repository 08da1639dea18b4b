/-
  Bytes of package instr: an instruction's bytes.
-/
import Derived.Test.YthdpgachdegcgaaInReadI
namespace Go.Proofs.Ythdpgachdegcgaa
open Go.RowKit
set_option linter.unusedVariables false
set_option maxRecDepth 8192

/-- a writer that takes the Op -/
theorem byte_first {w : World} {b : Nat} (h : IsW w b 11 (.slice none 0 0) [] 0) (n : Int) (h0 : 0 ≤ n) (h1 : n ≤ 255) :
    Calls Try.prog 63 #[.pointer (some ⟨b, 0, none⟩), .int .i64 n] w fun e w' => e = .returned (.tuple #[]) ∧
      ∃ v', IsW w' b 11 v' [n] 0 ∧ Fr (fun k => k = b) w w' ∧ ∀ k, v'.ownBlock = some k → w.heap.size ≤ k := by
  refine (byte_calls h n (by omega) (by omega) (by simp) (.inr (by omega))).mono fun e w' ⟨he, v', hW, hw⟩ => ⟨he, v', ?_, ?_, ?_⟩
  · rw [if_pos ⟨h0, h1⟩] at hW
    rw [put_ok (by simp)] at hW
    exact hW
  · refine hw.fr.mono fun i _ hi => ?_
    rcases hi with hi | hi
    · exact hi
    · simp [Value.ownBlock] at hi
  · intro k hk
    rcases hw.at' with e | ⟨g, e, hg⟩
    · rw [e] at hk; simp [Value.ownBlock] at hk
    · rw [e] at hk; cases hk; exact hg

/-- a writer that takes the number behind it -/
theorem int_next {w : World} {b : Nat} {v : Value} {op : Int} (h : IsW w b 11 v [op] 0) (n : Int) (h0 : -9223372036854775808 ≤ n) (h1 : n ≤ 9223372036854775807) (B : Nat) (hb : B ≤ b) (hB : B ≤ w.heap.size) (hv : ∀ k, v.ownBlock = some k → B ≤ k) :
    Calls Try.prog 89 #[.pointer (some ⟨b, 0, none⟩), .int .i64 n] w fun e w' => e = .returned (.tuple #[]) ∧
      ∃ v', IsW w' b 11 v' (op :: vb (Lib.zigzag n)) 0 ∧ Fr (fun k => B ≤ k) w w' := by
  refine (int_calls h n h0 h1 (by omega) (by omega) (by simp) (.inr (by omega))).mono fun e w' ⟨he, v', hW, hw⟩ => ⟨he, v', ?_, ?_⟩
  · have := vb_le (Lib.zigzag n) (zig_lt ⟨h0, h1⟩)
    rw [put_ok (by simp only [List.length_cons, List.length_nil]; omega)] at hW
    exact hW
  · refine hw.fr.mono fun i _ hi => ?_
    rcases hi with hi | hi
    · omega
    · exact hv i hi

theorem insB_ints {op a : Int} (h : rightB op a = true) : (if hasB op then op :: vb (Lib.zigzag a) else [op]) = ints (insB op a) := by
  have hb := op_byte (right_isOp h)
  unfold insB ints
  cases hh : hasB op
  · simp only [Bool.false_eq_true, if_false, List.map_cons, List.map_nil, hb]
  · simp only [if_true, List.map_cons, hb]
    rfl

set_option maxHeartbeats 2000000 in
theorem bytesI_no (op a : Int) (w : World) (hq : rightB op a = false) :
    Calls Try.prog 87 #[insV op a] w fun e w' => e = .returned (.tuple #[.string ⟨#[]⟩, .int .i64 4]) ∧ Fr (fun _ => False) w w' := by
  have HQ := hide hq
  have hf1 : Fr (fun _ => False) w (w.alloc (.cells #[.int .i64 op, .int .i64 a] 37)) := (Fr.refl _ w).alloc _
  clear hq
  go_enter Try.func87, Try.ntmps87
  go_wp2_with (first
    | (go_at_call 96; refine (right_calls _ _ _).mono ?_; rw [unhide HQ]; rintro e w2 ⟨rfl, hF2⟩; have hf2 := hf1.trans hF2 (T := fun _ => False) (fun _ _ h => h) (fun _ _ h => h)))
  go_ret2
  exact ⟨rfl, hf2⟩

set_option maxHeartbeats 2000000 in
theorem bytesI_ok (op a : Int) (w : World) (hq : rightB op a = true) :
    Calls Try.prog 87 #[insV op a] w fun e w' => e = .returned (.tuple #[.string (ba (insB op a)), .int .i64 0]) ∧ Fr (fun _ => False) w w' := by
  have HQ := hide hq
  have hi := insB_ints hq
  have ho := (isOpB_iff op).1 (right_isOp hq)
  have hz := right_fits hq
  have hf1 : Fr (fun _ => False) w (w.alloc (.cells #[.int .i64 op, .int .i64 a] 37)) := (Fr.refl _ w).alloc _
  have hr1 : InsAt (w.alloc (.cells #[.int .i64 op, .int .i64 a] 37)) w.heap.size op a := blk_new w _
  clear hq
  cases hh : hasB op
  · rw [hh] at hi
    simp only [Bool.false_eq_true, if_false] at hi
    have HI := hide hi
    have HH := hide hh
    clear hi hh
    go_enter Try.func87, Try.ntmps87
    go_wp2_with (first
      | (go_at_call 96; refine (right_calls _ _ _).mono ?_; rw [unhide HQ]; rintro e w2 ⟨rfl, hF2⟩; have hf2 := hf1.trans hF2 (T := fun _ => False) (fun _ _ h => h) (fun _ _ h => h); have hr2 := hr1.fr hF2 (fun h => h); have hlt2 := hr2.lt)
      | (go_at_call 27; refine (new_calls 11 _ (by omega) (by omega)).mono ?_; rw [show max (11 : Int) 0 = 11 from rfl]; rintro e w3 ⟨rfl, hW3, hF3⟩; have hf3 := hf2.trans hF3 (T := fun _ => False) (fun _ _ h => h) (fun _ _ h => h); have hr3 := hr2.fr hF3 (fun h => h); have c3 := hr3.c0; have s3 := hF3.size)
      | (go_at_call 63; refine (byte_first hW3 _ (by omega) (by omega)).mono ?_; rintro e w4 ⟨rfl, v4, hW4, hF4, hv4⟩; have hf4 := hf3.trans hF4 (T := fun _ => False) (fun _ _ h => h) (fun _ _ h => by omega); have hr4 := hr3.fr hF4 (by omega); have c4 := hr4.c0; rw [unhide HI] at hW4)
      | (go_at_call 99; refine (has_calls _ _).mono ?_; rw [unhide HH]; rintro e w' ⟨rfl, rfl⟩)
      | (go_at_call 29; refine (done_ok hW4).mono ?_; rintro e w' ⟨rfl, rfl⟩))
    go_ret2
    exact ⟨rfl, hf4⟩
  · rw [hh] at hi
    simp only [if_true] at hi
    have HI := hide hi
    have HH := hide hh
    clear hi hh
    go_enter Try.func87, Try.ntmps87
    go_wp2_with (first
      | (go_at_call 96; refine (right_calls _ _ _).mono ?_; rw [unhide HQ]; rintro e w2 ⟨rfl, hF2⟩; have hf2 := hf1.trans hF2 (T := fun _ => False) (fun _ _ h => h) (fun _ _ h => h); have hr2 := hr1.fr hF2 (fun h => h); have hlt2 := hr2.lt)
      | (go_at_call 27; refine (new_calls 11 _ (by omega) (by omega)).mono ?_; rw [show max (11 : Int) 0 = 11 from rfl]; rintro e w3 ⟨rfl, hW3, hF3⟩; have hf3 := hf2.trans hF3 (T := fun _ => False) (fun _ _ h => h) (fun _ _ h => h); have hr3 := hr2.fr hF3 (fun h => h); have c3 := hr3.c0; have s3 := hF3.size)
      | (go_at_call 63; refine (byte_first hW3 _ (by omega) (by omega)).mono ?_; rintro e w4 ⟨rfl, v4, hW4, hF4, hv4⟩; have hf4 := hf3.trans hF4 (T := fun _ => False) (fun _ _ h => h) (fun _ _ h => by omega); have hr4 := hr3.fr hF4 (by omega); have c4 := hr4.c0; have d4 := hr4.c1; have s4 := hF4.size)
      | (go_at_call 99; refine (has_calls _ _).mono ?_; rw [unhide HH]; rintro e w' ⟨rfl, rfl⟩)
      | (go_at_call 89; refine (int_next hW4 _ (by omega) (by omega) w2.heap.size (Nat.le_refl _) (by omega) (fun k hk => Nat.le_trans s3 (hv4 k hk))).mono ?_; rintro e w5 ⟨rfl, v5, hW5, hF5⟩; have hf5 := hf4.trans hF5 (T := fun _ => False) (fun _ _ h => h) (fun _ _ h => by omega); rw [unhide HI] at hW5)
      | (go_at_call 29; refine (done_ok hW5).mono ?_; rintro e w' ⟨rfl, rfl⟩))
    go_ret2
    exact ⟨rfl, hf5⟩

end Go.Proofs.Ythdpgachdegcgaa
