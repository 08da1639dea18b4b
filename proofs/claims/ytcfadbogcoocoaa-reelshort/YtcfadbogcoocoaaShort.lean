/-
  ReelShort: for every a and b the law returns true, and nothing that was there is changed. No condition.
-/
import Derived.Test.YtcfadbogcoocoaaLives
namespace Go.Proofs.Ytcfadbogcoocoaa
open Go.RowKit
set_option linter.unusedVariables false

theorem put20 (n : Nat) (h : n < 18446744073709551616) : put (max 20 0) ([], 0) (vb n) = (vb n, 0) := by
  have := vb_le n h
  unfold put
  rw [if_neg (by simp), if_neg (by simp only [List.length_nil]; omega)]
  rfl

set_option maxHeartbeats 2000000 in
set_option maxRecDepth 100000 in
theorem short_walk (a b : Int) (ha0 : 0 ≤ a) (ha : a ≤ 18446744073709551615) (hb0 : 0 ≤ b) (hb : b ≤ 18446744073709551615) (w : World) :
    Calls Try.prog 7 #[.int .u64 a, .int .u64 b] w fun e w' => e = .returned (.bool true) ∧ Below w.heap.size w w' := by
  have hpa := hide (put20 a.toNat (by omega))
  have hpb := hide (put20 b.toNat (by omega))
  have hla := vb_le a.toNat (by omega)
  go_enter Try.func7, Try.ntmps7
  go_wp2_with (go_at_call 10; refine (lives_calls _).mono ?_; rintro e w1 ⟨rfl, B1⟩)
  go_wp2_with fail
  refine (new_calls 20 _ (by omega) (by omega)).mono ?_
  rintro e w2 ⟨rfl, hV2, hF2⟩
  go_wp2_with fail
  refine (new_calls 20 _ (by omega) (by omega)).mono ?_
  rintro e w3 ⟨rfl, hW3, hF3⟩
  have hV3 := hV2.fr hF3 (fun h => h) (fun _ _ h => h)
  have z1 := B1.size
  have z2 : w1.heap.size < w2.heap.size := lt_of_blk hV2.blk
  have z3 : w2.heap.size < w3.heap.size := lt_of_blk hW3.blk
  clear hV2
  go_wp2_with fail
  refine (num_calls hV3 a ha0 ha (by omega) (by omega) (by simp) (.inl (by simp))).mono ?_
  rw [unhide hpa]
  rintro e w4 ⟨rfl, v4, hV4, hF4⟩
  have hW4 := hW3.fr hF4.fr (fun h => by rcases h with h | h; omega; simp [Value.ownBlock] at h) (fun k hk => by simp [Value.ownBlock] at hk)
  clear hV3 hW3
  go_wp2_with fail
  refine (num_calls hW4 b hb0 hb (by omega) (by omega) (by simp) (.inl (by simp))).mono ?_
  rw [unhide hpb]
  rintro e w5 ⟨rfl, v5, hW5, hF5⟩
  have z4 := hF4.fr.size
  have hV5 := hV4.fr hF5.fr (fun h => by rcases h with h | h; omega; simp [Value.ownBlock] at h) (fun k hk h => by
    rcases h with h | h
    · rcases hF4.at' with e | ⟨g, e, hg⟩
      · rw [e] at hk; simp [Value.ownBlock] at hk
      · rw [e] at hk; cases hk; omega
    · simp [Value.ownBlock] at h)
  have hB : Below w.heap.size w w5 := by
    have b2 := hF2.below (B := w.heap.size) z1 (fun _ _ h => h)
    have b3 := hF3.below (B := w.heap.size) (by omega) (fun _ _ h => h)
    have b4 := hF4.fr.below (B := w.heap.size) (by omega) (fun k hk h => by rcases h with h | h; omega; simp [Value.ownBlock] at h)
    have b5 := hF5.fr.below (B := w.heap.size) (by omega) (fun k hk h => by rcases h with h | h; omega; simp [Value.ownBlock] at h)
    exact (((B1.trans b2).trans b3).trans b4).trans b5
  clear hV4 hW4 hF2 hF3 hF4 hF5 B1 z1 z2 z3 z4
  go_wp2_with fail
  go_loop [7, 8] (fun n x => ∃ (j m : Nat), n = .int .i64 j ∧ j ≤ 10 ∧ x = .int .u64 m ∧ (m : Int) ≤ 18446744073709551615 ∧ j + (vb m).length = 1 + (vb a.toNat).length) (fun _ x => (intOf x).toNat)
  case atStart => exact ⟨1, a.toNat, rfl, by omega, by go_num, by omega, rfl⟩
  case round =>
    obtain ⟨j, m, rfl, hj, rfl, hm, hjm⟩ := hrel
    have HJ := hide hjm
    have hp := vb_pos m
    by_cases hlt : m < 128
    · have hs := vb_small hlt
      have hl1 : (vb m).length = 1 := by rw [hs]; rfl
      have hja : j = (vb a.toNat).length := by omega
      have hjI : ((vb a.toNat).length : Int) = j := by omega
      clear hs hl1
      have HA := hide hja
      clear hja hjm
      have hab : a > b ∨ (a ≤ b ∧ (vb a.toNat).length ≤ (vb b.toNat).length) := by
        by_cases h : a > b
        · exact .inl h
        · exact .inr ⟨by omega, vb_mono _ _ _ (Nat.le_refl _) (by omega)⟩
      have hjI2 : ((((vb a.toNat).length : Nat) : Int) == (j : Int)) = true := beq_iff_eq.2 hjI
      clear hjI
      rcases hab with hab | ⟨hab, hlen⟩
      · go_wp2_with (go_at_call 15; refine (len_calls hV5).mono ?_; rintro e w6 ⟨rfl, rfl⟩)
        go_ret
        exact ⟨rfl, hB⟩
      · go_wp2_with fail
        refine (len_calls hV5).mono ?_
        rintro e w6 ⟨rfl, rfl⟩
        go_wp2_with fail
        refine (len_calls hV5).mono ?_
        rintro e w6 ⟨rfl, rfl⟩
        go_wp2_with fail
        refine (len_calls hV5).mono ?_
        rintro e w6 ⟨rfl, rfl⟩
        go_wp2_with fail
        refine (len_calls hW5).mono ?_
        rintro e w6 ⟨rfl, rfl⟩
        go_wp2_with fail
        go_ret
        exact ⟨rfl, hB⟩
    · have hb := vb_big (x := m) (by omega)
      have hl1 : j + 1 + (vb (m / 128)).length = 1 + (vb a.toNat).length := by rw [hb] at hjm; simp only [List.length_cons] at hjm; omega
      have hp2 := vb_pos (m / 128)
      have HL := hide hl1
      have hj2 : j + 1 ≤ 10 := by omega
      clear hb hl1 hjm hp2
      go_wp2
      go_round
      case rel => exact ⟨j + 1, m / 128, by go_num, hj2, by go_num, by omega, unhide HL⟩
      case measure => simp [intOf]; omega
end Go.Proofs.Ytcfadbogcoocoaa
