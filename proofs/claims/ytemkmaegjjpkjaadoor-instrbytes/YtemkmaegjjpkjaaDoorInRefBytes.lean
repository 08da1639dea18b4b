/-
  Put and Bytes of the reference of layer 4.
-/
import Derived.Test.YtemkmaegjjpkjaaDoorInRef
import Derived.Test.YtemkmaegjjpkjaaDoorInBytes
namespace Go.Proofs.YtemkmaegjjpkjaaDoor
open Go.RowKit
set_option linter.unusedVariables false

theorem vbyte_first {w : World} {b : Nat} (h : IsV w b 20 (.slice none 0 0) [] 0) (n : Int) (h0 : 0 ≤ n) (h1 : n ≤ 255) :
    Calls Tryd.prog 43 #[.pointer (some ⟨b, 0, none⟩), .int .i64 n] w fun e w' => e = .returned (.tuple #[]) ∧
      ∃ v', IsV w' b 20 v' [n] 0 ∧ Fr (fun k => k = b) w w' ∧ ∀ k, v'.ownBlock = some k → w.heap.size ≤ k := by
  refine (vbyte_calls h n (by omega) (by omega) (by simp) (.inr (by omega))).mono fun e w' ⟨he, v', hW, hw⟩ => ⟨he, v', ?_, ?_, ?_⟩
  · unfold byteStep at hW
    rw [if_pos ⟨h0, h1⟩] at hW
    rw [put_ok (by simp)] at hW
    exact hW
  · refine hw.fr.mono fun i _ hi => ?_
    rcases hi with hi | hi
    · exact hi
    · simp [Value.ownBlock] at hi
  · intro k hk
    rcases hw.at' with e | ⟨g, e, hg⟩
    · rw [e] at hk; simp [Value.ownBlock] at hk
    · rw [e] at hk; cases hk; exact hg

theorem vint_next {w : World} {b : Nat} {v : Value} {op : Int} (h : IsV w b 20 v [op] 0) (n : Int) (h0 : -9223372036854775808 ≤ n) (h1 : n ≤ 9223372036854775807) (B : Nat) (hv : ∀ k, v.ownBlock = some k → B ≤ k) :
    Calls Tryd.prog 44 #[.pointer (some ⟨b, 0, none⟩), .int .i64 n] w fun e w' => e = .returned (.tuple #[]) ∧
      ∃ v', IsV w' b 20 v' (op :: vb (Lib.zigzag n)) 0 ∧ Fr (fun k => k = b ∨ B ≤ k) w w' := by
  refine (vint_calls h n h0 h1 (by omega) (by omega) (by simp) (.inr (by omega))).mono fun e w' ⟨he, v', hW, hw⟩ => ⟨he, v', ?_, ?_⟩
  · have := vb_le (Lib.zigzag n) (zig_lt ⟨h0, h1⟩)
    rw [put_ok (by simp only [List.length_cons, List.length_nil]; omega)] at hW
    exact hW
  · refine hw.fr.mono fun i _ hi => ?_
    rcases hi with hi | hi
    · exact .inl hi
    · exact .inr (hv i hi)

set_option maxHeartbeats 2000000 in
theorem xput_calls {w : World} {b : Nat} (h : IsV w b 20 (.slice none 0 0) [] 0) (op a : Int) (hq : rightB op a = true) :
    Calls Tryd.prog 32 #[.pointer (some ⟨b, 0, none⟩), insV op a] w fun e w' => e = .returned (.tuple #[]) ∧
      ∃ v', IsV w' b 20 v' (ints (insB op a)) 0 ∧ Fr (fun k => k = b) w w' := by
  have hi := insB_ints hq
  have ho := (isOpB_iff op).1 (right_isOp hq)
  have hz := right_fits hq
  have hlt := lt_of_blk h.blk
  have hf1 : Fr (fun k => k = b) w (w.alloc (.cells #[.int .i64 op, .int .i64 a] 23)) := (Fr.refl _ w).alloc _
  have hr1 : InsAt (w.alloc (.cells #[.int .i64 op, .int .i64 a] 23)) w.heap.size op a := blk_new w _
  have hV1 : IsV (w.alloc (.cells #[.int .i64 op, .int .i64 a] 23)) b 20 (.slice none 0 0) [] 0 := h.alloc' _
  have hs1 := hf1.size
  clear hq
  cases hh : hasB op
  · rw [hh] at hi
    simp only [Bool.false_eq_true, if_false] at hi
    have HI := hide hi
    have HH := hide hh
    clear hi hh
    go_enter Tryd.func32, Tryd.ntmps32
    go_wp2_with (first
      | (go_at_call 43; refine (vbyte_first hV1 _ (by omega) (by omega)).mono ?_; rintro e w4 ⟨rfl, v4, hW4, hF4, hv4⟩; have hf4 := hf1.trans hF4 (T := fun k => k = b) (fun _ _ h => h) (fun _ _ h => h); have hr4 := hr1.fr hF4 (by omega); have c4 := hr4.c0; rw [unhide HI] at hW4)
      | (go_at_call 15; refine (xhas_calls _ _).mono ?_; rw [unhide HH]; rintro e w' ⟨rfl, rfl⟩))
    go_end0
    exact ⟨rfl, v4, hW4, hf4⟩
  · rw [hh] at hi
    simp only [if_true] at hi
    have HI := hide hi
    have HH := hide hh
    clear hi hh
    go_enter Tryd.func32, Tryd.ntmps32
    go_wp2_with (first
      | (go_at_call 43; refine (vbyte_first hV1 _ (by omega) (by omega)).mono ?_; rintro e w4 ⟨rfl, v4, hW4, hF4, hv4⟩; have hf4 := hf1.trans hF4 (T := fun k => k = b) (fun _ _ h => h) (fun _ _ h => h); have hr4 := hr1.fr hF4 (by omega); have c4 := hr4.c0; have d4 := hr4.c1)
      | (go_at_call 15; refine (xhas_calls _ _).mono ?_; rw [unhide HH]; rintro e w' ⟨rfl, rfl⟩)
      | (go_at_call 44; refine (vint_next hW4 _ (by omega) (by omega) w.heap.size (fun k hk => Nat.le_trans hs1 (hv4 k hk))).mono ?_; rintro e w5 ⟨rfl, v5, hW5, hF5⟩; have hf5 := hf4.trans hF5 (T := fun k => k = b) (fun _ _ h => h) (fun _ _ h => by omega); rw [unhide HI] at hW5))
    go_end0
    exact ⟨rfl, v5, hW5, hf5⟩

set_option maxHeartbeats 2000000 in
theorem xbytes_calls (op a : Int) (w : World) (ha : -9223372036854775808 ≤ a ∧ a ≤ 9223372036854775807) :
    Calls Tryd.prog 19 #[insV op a] w fun e w' => e = .returned (.tuple #[.string (if rightB op a then ba (insB op a) else ⟨#[]⟩), .int .i64 (if rightB op a then 0 else 4)]) ∧ Fr (fun _ => False) w w' := by
  have hf1 : Fr (fun _ => False) w (w.alloc (.cells #[.int .i64 op, .int .i64 a] 23)) := (Fr.refl _ w).alloc _
  have hr1 : InsAt (w.alloc (.cells #[.int .i64 op, .int .i64 a] 23)) w.heap.size op a := blk_new w _
  cases hq : rightB op a
  · simp only [Bool.false_eq_true, if_false]
    have HQ := hide hq
    clear hq
    go_enter Tryd.func19, Tryd.ntmps19
    go_wp2_with (first
      | (go_at_call 13; refine (xright_calls _ _ _ ha).mono ?_; rw [unhide HQ]; rintro e w2 ⟨rfl, hF2⟩; have hf2 := hf1.trans hF2 (T := fun _ => False) (fun _ _ h => h) (fun _ _ h => h)))
    go_ret2
    exact ⟨rfl, hf2⟩
  · simp only [if_true]
    have HQ := hide hq
    have HDT : Hid (doneText (insB op a) 0 = ba (insB op a)) := rfl
    clear hq
    go_enter Tryd.func19, Tryd.ntmps19
    go_wp2_with (first
      | (go_at_call 13; refine (xright_calls _ _ _ ha).mono ?_; rw [unhide HQ]; rintro e w2 ⟨rfl, hF2⟩; have hf2 := hf1.trans hF2 (T := fun _ => False) (fun _ _ h => h) (fun _ _ h => h); have hr2 := hr1.fr hF2 (fun h => h); have hlt2 := hr2.lt)
      | (go_at_call 31; refine (vnew_calls 20 _ (by omega) (by omega)).mono ?_; rw [show max (20 : Int) 0 = 20 from rfl]; rintro e w3 ⟨rfl, hW3, hF3⟩; have hf3 := hf2.trans hF3 (T := fun _ => False) (fun _ _ h => h) (fun _ _ h => h); have hr3 := hr2.fr hF3 (fun h => h); have c3 := hr3.c0; have d3 := hr3.c1)
      | (go_at_call 32; refine (xput_calls hW3 op a (unhide HQ)).mono ?_; rintro e w4 ⟨rfl, v4, hW4, hF4⟩; have hf4 := hf3.trans hF4 (T := fun _ => False) (fun _ _ h => h) (fun _ _ h => by omega))
      | (go_at_call 33; refine (vdone_calls hW4).mono ?_; rw [unhide HDT]; rintro e w5 ⟨rfl, nq, rfl⟩))
    go_ret2
    exact ⟨rfl, hf4.drewN _⟩

end Go.Proofs.YtemkmaegjjpkjaaDoor
