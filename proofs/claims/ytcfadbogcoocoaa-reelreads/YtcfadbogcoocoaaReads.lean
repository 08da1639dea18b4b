/-
  ReelReads: for every text and every list of items the law returns true, and nothing that was there is changed. No condition.
-/
import Derived.Test.YtcfadbogcoocoaaSame
import Derived.Test.YtcfadbogcoocoaaRdPure
namespace Go.Proofs.Ytcfadbogcoocoaa
open Go.RowKit
set_option linter.unusedVariables false

theorem sstep_le (l : List UInt8) (E : Int) (x : It) : (sstep l E x).1.length ≤ l.length := by
  unfold sstep
  split
  · unfold rnum; split <;> simp
  · split
    · unfold rbyte; split
      · simp
      · split <;> simp
    · unfold rtext; split
      · simp
      · split
        · simp
        · split <;> simp

set_option maxHeartbeats 4000000 in
set_option maxRecDepth 100000 in
theorem reads_walk (T : ByteArray) (hT : T.size ≤ 9223372036854775807) (a : Option Addr) (la ca : Nat) (A : Nat → It) (w : World) (hA : Has w a la A) :
    Calls Try.prog 4 #[.string T, .slice a la ca] w fun e w' => e = .returned (.bool true) ∧ Below w.heap.size w w' := by
  have sa := hA.small
  have HTL := hide (Lib.size_eq T).symm
  go_enter Try.func4, Try.ntmps4
  go_wp2_with (go_at_call 10; refine (lives_calls _).mono ?_; rintro e w1 ⟨rfl, B1⟩)
  go_wp2_with fail
  refine (read_calls _ _).mono ?_
  rintro e w2 ⟨rfl, hR2, hF2⟩
  have hS : ∃ br bm, br = w1.heap.size ∧ bm = w2.heap.size ∧ RM w.heap.size w (w2.alloc (.cells #[.string T, .int .i64 0] 45)) br bm T.data.toList 0 := by
    have z1 := B1.size
    have z2 := hF2.size
    have b2 := hF2.below (B := w.heap.size) z1 (fun _ _ h => h)
    refine ⟨_, _, rfl, rfl, blk_alloc hR2, ?_, z1, by omega, (B1.trans b2).alloc (by omega) _⟩
    unfold IsM
    rw [ba_of]
    exact blk_new w2 _
  obtain ⟨br, bm, e1, e2, hS⟩ := hS
  rw [← e1]
  clear hR2 hF2 B1 e1
  go_wp2_with fail
  rw [← e2]
  generalize w2.alloc (.cells #[.string T, .int .i64 0] 45) = w3 at *
  clear e2
  go_loopw [7] (fun i wr => ∃ (k : Nat) (l : List UInt8) (E : Int), k ≤ la ∧ i = .int .i64 k ∧ RM w.heap.size w wr br bm l E ∧ l.length ≤ 9223372036854775807)
    (fun i _ => la - (intOf i).toNat)
  case atStart => exact ⟨0, _, _, Nat.zero_le _, rfl, hS, by rw [unhide HTL]; exact hT⟩
  case round =>
    clear hS
    obtain ⟨k, l, E, hk, rfl, hS, hl⟩ := hrel
    by_cases hlt : k < la
    · obtain ⟨bb, off, rfl, hok, c0, c1, c2, c3⟩ := (hA.below hS.bel).get hlt
      have hsame := @same_calls wr.drew br bm l E hS.rdr hS.mdl hS.ne hl (A k) hok
      have HSM := hide hsame
      have hle := sstep_le l E (A k)
      have hv : (A k).val = #[.int .i64 (A k).K, .int .u64 (A k).U, .int .i64 (A k).N, .string (A k).S] := rfl
      rw [hv] at HSM
      clear hsame hv
      generalize (sstep l E (A k)).1 = l' at *
      generalize (sstep l E (A k)).2 = E' at *
      have hz := ba_size l'
      go_wp2_with fail
      go_region_with (first | (go_at_call 19; refine (unhide HSM).mono ?_; rintro e w5 ⟨rfl, hR5, hM5, hF5⟩; have m0 := cell_at hM5 0; simp at m0) | (go_at_call 20; refine (left_calls hR5).mono ?_; rintro e w6 ⟨rfl, rfl⟩) | (go_at_call 21; refine (end_calls hR5).mono ?_; rintro e w6 ⟨rfl, rfl⟩) | (go_at_call 22; refine (mend_calls hM5).mono ?_; rintro e w6 ⟨rfl, rfl⟩))
      all_goals
        have hF6 : Fr (fun k => k = br ∨ k = bm) wr w5 := ⟨hF5.os, hF5.tape, hF5.output, hF5.size, hF5.block⟩
        have hS5 : RM w.heap.size w w5 br bm l' E' := ⟨hR5, hM5, hS.Br, hS.Bm, hS.bel.trans (hF6.below hS.bel.size (fun k hk e => by have := hS.Br; have := hS.Bm; omega))⟩
        clear hF5 hF6 hR5 hM5 hS m0 c0 c1 c2 c3
        go_wp2_with fail
        go_roundw
        case rel => exact ⟨k + 1, l', E', by omega, by go_num, hS5, by omega⟩
        case measure => simp [intOf]; omega
    · have hR5 := hS.rdr
      have hM5 := hS.mdl
      have hbel := hS.bel
      have m0 := cell_at hM5 0
      simp at m0
      have hz := ba_size l
      clear hS
      go_wp2_with fail
      go_region_with (first | (go_at_call 20; refine (left_calls (l := l) (E := E) (by exact hR5)).mono ?_; rintro e w6 ⟨rfl, rfl⟩) | (go_at_call 21; refine (end_calls (l := l) (E := E) (by exact hR5)).mono ?_; rintro e w6 ⟨rfl, rfl⟩) | (go_at_call 22; refine (mend_calls (l := l) (E := E) (by exact hM5)).mono ?_; rintro e w6 ⟨rfl, rfl⟩))
      all_goals
        go_wp2_with fail
        go_ret
        exact ⟨by first | rfl | simp, hbel.os, hbel.tape, hbel.output, hbel.size, hbel.block⟩
end Go.Proofs.Ytcfadbogcoocoaa
