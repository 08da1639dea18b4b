/-
  ReelJoins: for every two lists of items the law returns true, and nothing that was there is changed. No condition.
-/
import Derived.Test.YtcfadbogcoocoaaArgs
import Derived.Test.YtcfadbogcoocoaaLives
namespace Go.Proofs.Ytcfadbogcoocoaa
open Go.RowKit
set_option linter.unusedVariables false

/-- three writers beside one another, all of them from block B on -/
structure Three (B : Nat) (w0 w : World) (b1 b2 b3 : Nat) (L1 L2 L3 : Int) (s1 s2 s3 : List Int × Int) (v1 v2 v3 : Value) : Prop where
  w1 : IsW w b1 L1 v1 s1.1 s1.2
  w2 : IsW w b2 L2 v2 s2.1 s2.2
  w3 : IsW w b3 L3 v3 s3.1 s3.2
  n12 : b1 ≠ b2
  n13 : b1 ≠ b3
  n23 : b2 ≠ b3
  a12 : Apart v1 v2
  a13 : Apart v1 v3
  a23 : Apart v2 v3
  B1 : B ≤ b1
  B2 : B ≤ b2
  B3 : B ≤ b3
  V1 : ∀ k, v1.ownBlock = some k → B ≤ k
  V2 : ∀ k, v2.ownBlock = some k → B ≤ k
  V3 : ∀ k, v3.ownBlock = some k → B ≤ k
  bel : Below B w0 w

theorem Three.go1 {B : Nat} {w0 w w' : World} {b1 b2 b3 : Nat} {L1 L2 L3 : Int} {s1 s2 s3 t1 : List Int × Int} {v1 v2 v3 v' : Value} (h : Three B w0 w b1 b2 b3 L1 L2 L3 s1 s2 s3 v1 v2 v3)
    (hW : IsW w' b1 L1 v' t1.1 t1.2) (hF : Wrote w w' b1 v1 v') : Three B w0 w' b1 b2 b3 L1 L2 L3 t1 s2 s3 v' v2 v3 := by
  obtain ⟨o2, p2⟩ := h.w1.other h.w2 h.n12 h.a12 hF
  obtain ⟨o3, p3⟩ := h.w1.other h.w3 h.n13 h.a13 hF
  obtain ⟨bl, vb⟩ := hF.below h.w1 h.B1 h.V1
  exact ⟨hW, o2, o3, h.n12, h.n13, h.n23, p2, p3, h.a23, h.B1, h.B2, h.B3, vb, h.V2, h.V3, h.bel.trans bl⟩

theorem Three.go2 {B : Nat} {w0 w w' : World} {b1 b2 b3 : Nat} {L1 L2 L3 : Int} {s1 s2 s3 t : List Int × Int} {v1 v2 v3 v' : Value} (h : Three B w0 w b1 b2 b3 L1 L2 L3 s1 s2 s3 v1 v2 v3)
    (hW : IsW w' b2 L2 v' t.1 t.2) (hF : Wrote w w' b2 v2 v') : Three B w0 w' b1 b2 b3 L1 L2 L3 s1 t s3 v1 v' v3 := by
  obtain ⟨o1, p1⟩ := h.w2.other h.w1 h.n12.symm h.a12.symm hF
  obtain ⟨o3, p3⟩ := h.w2.other h.w3 h.n23 h.a23 hF
  obtain ⟨bl, vb⟩ := hF.below h.w2 h.B2 h.V2
  exact ⟨o1, hW, o3, h.n12, h.n13, h.n23, p1.symm, h.a13, p3, h.B1, h.B2, h.B3, h.V1, vb, h.V3, h.bel.trans bl⟩

theorem Three.go3 {B : Nat} {w0 w w' : World} {b1 b2 b3 : Nat} {L1 L2 L3 : Int} {s1 s2 s3 t : List Int × Int} {v1 v2 v3 v' : Value} (h : Three B w0 w b1 b2 b3 L1 L2 L3 s1 s2 s3 v1 v2 v3)
    (hW : IsW w' b3 L3 v' t.1 t.2) (hF : Wrote w w' b3 v3 v') : Three B w0 w' b1 b2 b3 L1 L2 L3 s1 s2 t v1 v2 v' := by
  obtain ⟨o1, p1⟩ := h.w3.other h.w1 h.n13.symm h.a13.symm hF
  obtain ⟨o2, p2⟩ := h.w3.other h.w2 h.n23.symm h.a23.symm hF
  obtain ⟨bl, vb⟩ := hF.below h.w3 h.B3 h.V3
  exact ⟨o1, o2, hW, h.n12, h.n13, h.n23, h.a12, p1.symm, p2.symm, h.B1, h.B2, h.B3, h.V1, h.V2, vb, h.bel.trans bl⟩

set_option maxHeartbeats 4000000 in
set_option maxRecDepth 100000 in
theorem joins_walk (a : Option Addr) (la ca : Nat) (A : Nat → It) (b : Option Addr) (lb cb : Nat) (Bs : Nat → It) (w : World) (hA : Has w a la A) (hB : Has w b lb Bs) :
    Calls Try.prog 9 #[.slice a la ca, .slice b lb cb] w fun e w' => e = .returned (.bool true) ∧ Below w.heap.size w w' := by
  have sa := hA.small
  have sb := hB.small
  go_enter Try.func9, Try.ntmps9
  go_wp2_with (go_at_call 10; refine (lives_calls _).mono ?_; rintro e w1 ⟨rfl, B1⟩)
  go_wp2_with fail
  refine (new_calls 4194304 _ (by omega) (by omega)).mono ?_
  rintro e w2 ⟨rfl, hV2, hF2⟩
  go_wp2_with fail
  refine (new_calls 4194304 _ (by omega) (by omega)).mono ?_
  rintro e w3 ⟨rfl, hW3, hF3⟩
  go_wp2_with fail
  refine (new_calls 8388608 _ (by omega) (by omega)).mono ?_
  rintro e w4 ⟨rfl, hX4, hF4⟩
  have hT : ∃ b1 b2 b3, b1 = w1.heap.size ∧ b2 = w2.heap.size ∧ b3 = w3.heap.size ∧ Three w.heap.size w w4 b1 b2 b3 4194304 4194304 8388608 ([], 0) ([], 0) ([], 0) (.slice none 0 0) (.slice none 0 0) (.slice none 0 0) := by
    have z1 := B1.size
    have z2 : w1.heap.size < w2.heap.size := lt_of_blk hV2.blk
    have z3 : w2.heap.size < w3.heap.size := lt_of_blk hW3.blk
    have hV4 := (hV2.fr hF3 (fun h => h) (fun _ _ h => h)).fr hF4 (fun h => h) (fun _ _ h => h)
    have hW4 := hW3.fr hF4 (fun h => h) (fun _ _ h => h)
    have b2 := hF2.below (B := w.heap.size) z1 (fun _ _ h => h)
    have b3 := hF3.below (B := w.heap.size) (by omega) (fun _ _ h => h)
    have b4 := hF4.below (B := w.heap.size) (by omega) (fun _ _ h => h)
    exact ⟨_, _, _, rfl, rfl, rfl, hV4, hW4, hX4, by omega, by omega, by omega, Apart.nil _ _, Apart.nil _ _, Apart.nil _ _, by omega, by omega, by omega, fun k hk => by simp [Value.ownBlock] at hk, fun k hk => by simp [Value.ownBlock] at hk, fun k hk => by simp [Value.ownBlock] at hk, ((B1.trans b2).trans b3).trans b4⟩
  obtain ⟨b1, b2, b3, e1, e2, e3, hT⟩ := hT
  rw [← e1, ← e2, ← e3]
  clear hV2 hW3 hX4 hF2 hF3 hF4 B1 e1 e2 e3
  go_wp2_with fail
  go_loopw [8] (fun i wr => ∃ (k : Nat) (v1 v3 : Value), k ≤ la ∧ i = .int .i64 k ∧ Three w.heap.size w wr b1 b2 b3 4194304 4194304 8388608 (runW 4194304 A ([], 0) k) ([], 0) (runW 8388608 A ([], 0) k) v1 (.slice none 0 0) v3)
    (fun i _ => la - (intOf i).toNat)
  case atStart => exact ⟨0, _, _, Nat.zero_le _, rfl, hT⟩
  case round =>
    clear hT
    obtain ⟨k, v1, v3, hk, rfl, hT⟩ := hrel
    by_cases hlt : k < la
    · obtain ⟨bb, off, rfl, hok, c0, c1, c2, c3⟩ := (hA.below hT.bel).get hlt
      have l1 := runW_len (L := 4194304) (its := A) (s := ([], 0)) (by simp) k
      have l3 := runW_len (L := 8388608) (its := A) (s := ([], 0)) (by simp) k
      go_wp2_with fail
      refine (write_calls hT.w1 (A k) hok (by omega) (by omega) (by omega) (.inr (by omega))).mono ?_
      rintro e w5 ⟨rfl, v1', hW', hF'⟩
      have hT2 := hT.go1 hW' hF'
      clear hT hW' hF' c0 c1 c2 c3
      obtain ⟨bb', off', e', _, c0, c1, c2, c3⟩ := (hA.below hT2.bel).get hlt
      cases e'
      go_wp2_with fail
      refine (write_calls hT2.w3 (A k) hok (by omega) (by omega) (by omega) (.inr (by omega))).mono ?_
      rintro e w6 ⟨rfl, v3', hW', hF'⟩
      have hT3 := hT2.go3 hW' hF'
      clear hT2 hW' hF' c0 c1 c2 c3
      go_wp2_with fail
      go_roundw
      case rel => exact ⟨k + 1, v1', v3', by omega, by go_num, hT3⟩
      case measure => simp [intOf]; omega
    · have hkl : k = la := by omega
      subst hkl
      clear hlt hk
      go_wp2_with fail
      go_loopw [9] (fun i wr2 => ∃ (m : Nat) (v2 v3 : Value), m ≤ lb ∧ i = .int .i64 m ∧ Three w.heap.size w wr2 b1 b2 b3 4194304 4194304 8388608 (runW 4194304 A ([], 0) k) (runW 4194304 Bs ([], 0) m) (runW 8388608 Bs (runW 8388608 A ([], 0) k) m) v1 v2 v3)
        (fun i _ => lb - (intOf i).toNat)
      case atStart => exact ⟨0, _, _, Nat.zero_le _, rfl, hT⟩
      case round =>
        clear hT
        obtain ⟨m, v2, v3, hm, rfl, hT⟩ := hrel
        have l3' := runW_len (L := 8388608) (its := A) (s := ([], 0)) (by simp) k
        have l2 := runW_len (L := 4194304) (its := Bs) (s := ([], 0)) (by simp) m
        have l3 := runW_len (L := 8388608) (its := Bs) (s := runW 8388608 A ([], 0) k) l3' m
        by_cases hlt : m < lb
        · obtain ⟨bb, off, rfl, hok, c0, c1, c2, c3⟩ := (hB.below hT.bel).get hlt
          go_wp2_with fail
          refine (write_calls hT.w2 (Bs m) hok (by omega) (by omega) (by omega) (.inr (by omega))).mono ?_
          rintro e w5 ⟨rfl, v2', hW', hF'⟩
          have hT2 := hT.go2 hW' hF'
          clear hT hW' hF' c0 c1 c2 c3
          obtain ⟨bb', off', e', _, c0, c1, c2, c3⟩ := (hB.below hT2.bel).get hlt
          cases e'
          go_wp2_with fail
          refine (write_calls hT2.w3 (Bs m) hok (by omega) (by omega) (by omega) (.inr (by omega))).mono ?_
          rintro e w6 ⟨rfl, v3', hW', hF'⟩
          have hT3 := hT2.go3 hW' hF'
          clear hT2 hW' hF' c0 c1 c2 c3
          go_wp2_with fail
          go_roundw
          case rel => exact ⟨m + 1, v2', v3', by omega, by go_num, hT3⟩
          case measure => simp [intOf]; omega
        · have hml : m = lb := by omega
          subst hml
          clear hlt hm
          obtain ⟨c1, hc1⟩ := runW_ints (L := 4194304) (its := A) (s := ([], 0)) ⟨[], rfl⟩ k
          obtain ⟨c2, hc2⟩ := runW_ints (L := 4194304) (its := Bs) (s := ([], 0)) ⟨[], rfl⟩ m
          have hx3 := runW_ints (L := 8388608) (its := Bs) (s := runW 8388608 A ([], 0) k) (runW_ints (L := 8388608) (its := A) (s := ([], 0)) ⟨[], rfl⟩ k) m
          obtain ⟨c3, hc3⟩ := hx3
          have l1 := runW_len (L := 4194304) (its := A) (s := ([], 0)) (by simp) k
          have hall : (runW 4194304 A ([], 0) k).2 = 0 → (runW 4194304 Bs ([], 0) m).2 = 0 → runW 8388608 Bs (runW 8388608 A ([], 0) k) m = (ints (c1 ++ c2), 0) := by
            intro h1 h2
            have r1 := runW_wider (L := 4194304) (M := 8388608) (its := A) [] (by simp) k h1
            rw [r1, List.nil_append]
            have r2 := runW_wider (L := 4194304) (M := 8388608) (its := Bs) (runW 4194304 A ([], 0) k).1 (by omega) m h2
            rw [r2, hc1, hc2, ints_append]
          have H1 := hT.w1
          have H2 := hT.w2
          have H3 := hT.w3
          have hbel := hT.bel
          rw [hc1] at H1 l1
          rw [hc2] at H2 l2
          rw [hc3] at H3
          have hd3 : (runW 4194304 A ([], 0) k).2 = 0 → (runW 4194304 Bs ([], 0) m).2 = 0 → ints c3 = ints (c1 ++ c2) ∧ (runW 8388608 Bs (runW 8388608 A ([], 0) k) m).2 = 0 := by
            intro h1 h2
            have := hall h1 h2
            rw [this] at hc3
            exact ⟨hc3.symm, by rw [this]⟩
          clear hT hall hc1 hc2 hc3 l3 l3'
          generalize (runW 4194304 A ([], 0) k).2 = E1 at *
          generalize (runW 4194304 Bs ([], 0) m).2 = E2 at *
          generalize (runW 8388608 Bs (runW 8388608 A ([], 0) k) m).2 = E3 at *
          have HD := hide hd3
          clear hd3
          go_wp2_with fail
          refine (done_any H1).mono ?_
          rintro e w5 ⟨rfl, n5, rfl⟩
          go_wp2_with fail
          refine (done_any (H2.drewN n5)).mono ?_
          rintro e w6 ⟨rfl, n6, rfl⟩
          go_wp2_with fail
          refine (done_any (H3.drewN (n5 + n6))).mono ?_
          rintro e w7 ⟨rfl, n7, rfl⟩
          have hB7 : Below w.heap.size w (wr.drewN (n5 + n6 + n7)) := ⟨hbel.os, hbel.tape, hbel.output, hbel.size, hbel.block⟩
          by_cases h1 : E1 = 0
          · by_cases h2 : E2 = 0
            · obtain ⟨hi3, h3⟩ := (unhide HD) h1 h2
              subst h1 h2 h3
              have ec : c3 = c1 ++ c2 := ints_inj hi3
              subst ec
              have t1 : doneText c1 0 = ba c1 := rfl
              have t2 : doneText c2 0 = ba c2 := rfl
              have t3 : doneText (c1 ++ c2) 0 = ba c1 ++ ba c2 := by rw [ba_append]; rfl
              rw [t1, t2, t3]
              rw [ints_length] at l1 l2
              have s1 := ba_size c1
              have s2 := ba_size c2
              have hsum : (ba c1).size + (ba c2).size ≤ 9223372036854775807 := by omega
              clear s1 s2 t1 t2 t3 HD hi3
              have K1 := H1.drewN (n5 + n6 + n7)
              have K2 := H2.drewN (n5 + n6 + n7)
              have K3 := H3.drewN (n5 + n6 + n7)
              clear H1 H2 H3
              have k1 : (ints c1).length = c1.length := ints_length c1
              have k2 : (ints c2).length = c2.length := ints_length c2
              have k3 : (ints (c1 ++ c2)).length = c1.length + c2.length := by rw [ints_length, List.length_append]
              go_wp2_with fail
              refine (len_calls K3).mono ?_
              rintro e w8 ⟨rfl, rfl⟩
              rw [k3]
              go_wp2_with fail
              refine (len_calls K1).mono ?_
              rintro e w8 ⟨rfl, rfl⟩
              rw [k1]
              go_wp2_with fail
              refine (len_calls K2).mono ?_
              rintro e w8 ⟨rfl, rfl⟩
              rw [k2]
              clear k1 k2 k3
              go_wp2_with fail
              go_ret
              exact ⟨rfl, hB7⟩
            · have hb1 : (E1 != 0) = false := by rw [h1]; rfl
              have hb2 : (E2 != 0) = true := bne_iff_ne.2 h2
              clear HD h1 h2
              go_wp2_with fail
              go_ret
              exact ⟨rfl, hB7⟩
          · have hb1 : (E1 != 0) = true := bne_iff_ne.2 h1
            clear HD h1
            go_wp2_with fail
            go_ret
            exact ⟨rfl, hB7⟩
end Go.Proofs.Ytcfadbogcoocoaa
