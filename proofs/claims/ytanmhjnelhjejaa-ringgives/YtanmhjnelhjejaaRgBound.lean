/-
  RingBound: never more than its size; who is refused changes nothing.
-/
import Derived.Test.YtanmhjnelhjejaaRgSame
import Derived.Test.YtanmhjnelhjejaaRgFrame
import Derived.Test.YtanmhjnelhjejaaRgOrder
import Derived.Deep.Cut
namespace Go.Proofs.Ytanmhjnelhjejaa
open Go.RowKit
set_option linter.unusedVariables false
set_option maxRecDepth 8192

theorem kind_val {k c : Int} (h : kd k = c) (x : Int) (w : World) :
    Calls Try.prog 13 #[.agg #[.int .i64 k, .int .i64 x]] w fun e w' => e = .returned (.int .i64 c) ∧ Fr (fun _ => False) w w' := h ▸ kind_calls k x w

set_option maxHeartbeats 8000000 in
theorem bound_calls {w : World} (size : Int) {a1 : Option Addr} {n1 k1 : Nat} {ops : List (Int × Int)} (A1 : PrA w.heap.size w a1 n1 ops) :
    Calls Try.prog 8 #[.int .i64 size, .slice a1 n1 k1] w fun e w' => e = .returned (.bool true) ∧ Fr (fun _ => False) w w' := by
  have s1 := A1.small
  go_enter Try.func8, Try.ntmps8
  go_wp2_with (first
    | (go_at_call 9; refine (lives_calls _).mono ?_; rintro e w1 ⟨rfl, hF0⟩)
    | (go_at_call 10; refine (rnew2 _ _).mono ?_; rintro e w2 ⟨G, S, hG0, hS0, rfl, hR, hF⟩))
  have hG : w.heap.size ≤ G := by rw [← hG0.out]; exact hF0.size
  have hS1 := clamp_pos size
  have hS2 := clamp_most size
  rw [hS0.out] at hS1 hS2
  replace hF := hF0.trans hF (fun _ _ h => h) (fun _ _ h => h)
  clear hG0 hS0 hF0
  go_loopw [6, 7] (fun n i wr => ∃ (k : Nat) (l : List Int), k ≤ n1 ∧ i = .int .i64 k ∧ n = .int .i64 (l.length : Nat) ∧ Rg wr (G + 1) G S l ∧ Fr (fun _ => False) w wr) (fun n i _ => n1 - (intOf i).toNat)
  case atStart => exact ⟨0, [], by omega, rfl, rfl, hR, hF⟩
  case round =>
    clear hR hF
    obtain ⟨k, l, hk, rfl, rfl, hR, hF⟩ := hrel
    by_cases hlt : k < n1
    · obtain ⟨ba, off, ⟨kk, x⟩, vs, rfl, hba, hx, hc, rfl, _, _⟩ := (A1.fr hF (fun _ h => h.elim)).at hlt
      have d0 : wr.cell? ⟨ba, off + k * 2, none⟩ = some (.int .i64 kk) := by simpa using hc 0 _ rfl
      have d1 : wr.cell? ⟨ba, off + k * 2 + 1, none⟩ = some (.int .i64 x) := by simpa using hc 1 _ rfl
      have hlt' : (k : Int) < (n1 : Int) := by omega
      have hLS := hR.len
      have hZ := hF.size
      have hbG : G + 1 < wr.heap.size := by obtain ⟨f, h⟩ := hR; exact lt_of_blk h.blk
      obtain ⟨ln, HLn⟩ : ∃ ln, l.length = ln := ⟨_, rfl⟩
      have HL0 := hide HLn
      rw [HLn] at hLS ⊢
      have hO : (wr.alloc (.cells #[.int .i64 kk, .int .i64 x] 33)).heap[wr.heap.size]? = some (.cells #[.int .i64 kk, .int .i64 x] 33 (0, 0)) := blk_new _ _
      have hR0 := hR.fr ((Fr.refl (fun _ => False) wr).alloc (.cells #[.int .i64 kk, .int .i64 x] 33)) (fun h => h) (fun h => h)
      have hF0 := hF.alloc (.cells #[.int .i64 kk, .int .i64 x] 33)
      clear hx hc hlt HLn hR hF
      rename Rg _ _ _ _ _ => hR
      rename Fr _ w _ => hF
      go_upto_region 10 with (go_at_call 26; refine (rall hR).mono ?_; rintro e w1 ⟨v, rfl, hW, hF1⟩; replace hR := hR.fr hF1 (fun h => h) (fun h => h); replace hO := hF1.blk hO (fun h => h); have c0 := cell_at hO 0; have c1 := cell_at hO 1; simp at c0 c1; replace hF := hF.trans hF1 (fun _ _ h => h) (fun _ _ h => h); replace hZ := hF1.size)
      simp at hZ
      obtain ⟨lo, hlo⟩ : ∃ lo, (wr.alloc (.cells #[.int .i64 kk, .int .i64 x] 33)).heap.size = lo := ⟨_, rfl⟩
      rw [hlo] at hW
      have hloG : G + 1 < lo := by rw [← hlo]; simp; omega
      clear hlo
      rcases kd_lt kk with hkd | hkd | hkd | hkd

      · by_cases hroom : ln < S
        · have hrI : (ln : Int) < (S : Int) := by omega
          have HL : Hid ((l ++ [x]).length = ln + 1) := hide (by simp [HL0.out])
          go_wp2_with (first
            | (go_at_call 13; refine (kind_val hkd _ _).mono ?_; rintro e w1 ⟨rfl, hF1⟩; replace hR := hR.fr hF1 (fun h => h) (fun h => h); replace hO := hF1.blk hO (fun h => h); have c0 := cell_at hO 0; have c1 := cell_at hO 1; simp at c0 c1; replace hF := hF.trans hF1 (fun _ _ h => h) (fun _ _ h => h); replace hW := hW.fr hF1 (fun _ _ h => h))
            | (go_at_call 14; refine (rput_ok hR (by have := HL0.out; omega) _).mono ?_; rintro e w1 ⟨rfl, hR1, hF1⟩; replace hR := hR1; replace hO := hF1.blk hO (by omega); have c0 := cell_at hO 0; have c1 := cell_at hO 1; simp at c0 c1; replace hF := hF.ring hF1 (.inl (by omega)) (.inl (by omega)); replace hW := hW.fr hF1 (by omega))
            | (go_at_call 12; refine (rsize hR).mono ?_; rintro e w1 ⟨rfl, rfl⟩)
            | (go_at_call 22; refine (rlen hR HL).mono ?_; rintro e w1 ⟨rfl, rfl⟩)
            | (go_at_call 26; refine (rall hR).mono ?_; rintro e w1 ⟨v2, rfl, hW2, hF1⟩; replace hR := hR.fr hF1 (fun h => h) (fun h => h); replace hO := hF1.blk hO (fun h => h); have c0 := cell_at hO 0; have c1 := cell_at hO 1; simp at c0 c1; replace hF := hF.trans hF1 (fun _ _ h => h) (fun _ _ h => h); replace hW := hW.fr hF1 (fun _ _ h => h))
            | (go_at_call 25; refine (same_true (hW2.sl (by have := HL.out; omega)) (hW.sl (by have := HL.out; omega)) (by have := HL.out; omega)).mono ?_; rintro e w1 ⟨rfl, hF1⟩; replace hR := hR.fr hF1 (fun h => h) (fun h => h); replace hO := hF1.blk hO (fun h => h); have c0 := cell_at hO 0; have c1 := cell_at hO 1; simp at c0 c1; replace hF := hF.trans hF1 (fun _ _ h => h) (fun _ _ h => h)))
          go_roundw
          case rel => exact ⟨k + 1, l ++ [x], by omega, by go_num, by first | (rw [HL.out]; done) | (rw [HL.out]; go_num), hR, hF⟩
          case measure => simp [intOf]; omega
        · have hrI : (S : Int) ≤ (ln : Int) := by omega
          have HL : Hid ((l).length = ln) := hide (by exact HL0.out)
          go_wp2_with (first
            | (go_at_call 13; refine (kind_val hkd _ _).mono ?_; rintro e w1 ⟨rfl, hF1⟩; replace hR := hR.fr hF1 (fun h => h) (fun h => h); replace hO := hF1.blk hO (fun h => h); have c0 := cell_at hO 0; have c1 := cell_at hO 1; simp at c0 c1; replace hF := hF.trans hF1 (fun _ _ h => h) (fun _ _ h => h); replace hW := hW.fr hF1 (fun _ _ h => h))
            | (go_at_call 14; refine (rput_full hR (by have := HL0.out; omega) _).mono ?_; rintro e w1 ⟨rfl, hR1, hF1⟩; replace hR := hR1; replace hO := hF1.blk hO (by omega); have c0 := cell_at hO 0; have c1 := cell_at hO 1; simp at c0 c1; replace hF := hF.ring hF1 (.inl (by omega)) (.inl (by omega)); replace hW := hW.fr hF1 (by omega))
            | (go_at_call 12; refine (rsize hR).mono ?_; rintro e w1 ⟨rfl, rfl⟩)
            | (go_at_call 22; refine (rlen hR HL).mono ?_; rintro e w1 ⟨rfl, rfl⟩)
            | (go_at_call 26; refine (rall hR).mono ?_; rintro e w1 ⟨v2, rfl, hW2, hF1⟩; replace hR := hR.fr hF1 (fun h => h) (fun h => h); replace hO := hF1.blk hO (fun h => h); have c0 := cell_at hO 0; have c1 := cell_at hO 1; simp at c0 c1; replace hF := hF.trans hF1 (fun _ _ h => h) (fun _ _ h => h); replace hW := hW.fr hF1 (fun _ _ h => h))
            | (go_at_call 25; refine (same_true (hW2.sl (by have := HL.out; omega)) (hW.sl (by have := HL.out; omega)) (by have := HL.out; omega)).mono ?_; rintro e w1 ⟨rfl, hF1⟩; replace hR := hR.fr hF1 (fun h => h) (fun h => h); replace hO := hF1.blk hO (fun h => h); have c0 := cell_at hO 0; have c1 := cell_at hO 1; simp at c0 c1; replace hF := hF.trans hF1 (fun _ _ h => h) (fun _ _ h => h)))
          go_roundw
          case rel => exact ⟨k + 1, l, by omega, by go_num, by rw [HL.out], hR, hF⟩
          case measure => simp [intOf]; omega
      · by_cases hroom : ln < S
        · have hrI : (ln : Int) < (S : Int) := by omega
          have HL : Hid ((x :: l).length = ln + 1) := hide (by simp [HL0.out])
          go_wp2_with (first
            | (go_at_call 13; refine (kind_val hkd _ _).mono ?_; rintro e w1 ⟨rfl, hF1⟩; replace hR := hR.fr hF1 (fun h => h) (fun h => h); replace hO := hF1.blk hO (fun h => h); have c0 := cell_at hO 0; have c1 := cell_at hO 1; simp at c0 c1; replace hF := hF.trans hF1 (fun _ _ h => h) (fun _ _ h => h); replace hW := hW.fr hF1 (fun _ _ h => h))
            | (go_at_call 16; refine (rpush_ok hR (by have := HL0.out; omega) _).mono ?_; rintro e w1 ⟨rfl, hR1, hF1⟩; replace hR := hR1; replace hO := hF1.blk hO (by omega); have c0 := cell_at hO 0; have c1 := cell_at hO 1; simp at c0 c1; replace hF := hF.ring hF1 (.inl (by omega)) (.inl (by omega)); replace hW := hW.fr hF1 (by omega))
            | (go_at_call 12; refine (rsize hR).mono ?_; rintro e w1 ⟨rfl, rfl⟩)
            | (go_at_call 22; refine (rlen hR HL).mono ?_; rintro e w1 ⟨rfl, rfl⟩)
            | (go_at_call 26; refine (rall hR).mono ?_; rintro e w1 ⟨v2, rfl, hW2, hF1⟩; replace hR := hR.fr hF1 (fun h => h) (fun h => h); replace hO := hF1.blk hO (fun h => h); have c0 := cell_at hO 0; have c1 := cell_at hO 1; simp at c0 c1; replace hF := hF.trans hF1 (fun _ _ h => h) (fun _ _ h => h); replace hW := hW.fr hF1 (fun _ _ h => h))
            | (go_at_call 25; refine (same_true (hW2.sl (by have := HL.out; omega)) (hW.sl (by have := HL.out; omega)) (by have := HL.out; omega)).mono ?_; rintro e w1 ⟨rfl, hF1⟩; replace hR := hR.fr hF1 (fun h => h) (fun h => h); replace hO := hF1.blk hO (fun h => h); have c0 := cell_at hO 0; have c1 := cell_at hO 1; simp at c0 c1; replace hF := hF.trans hF1 (fun _ _ h => h) (fun _ _ h => h)))
          go_roundw
          case rel => exact ⟨k + 1, x :: l, by omega, by go_num, by first | (rw [HL.out]; done) | (rw [HL.out]; go_num), hR, hF⟩
          case measure => simp [intOf]; omega
        · have hrI : (S : Int) ≤ (ln : Int) := by omega
          have HL : Hid ((l).length = ln) := hide (by exact HL0.out)
          go_wp2_with (first
            | (go_at_call 13; refine (kind_val hkd _ _).mono ?_; rintro e w1 ⟨rfl, hF1⟩; replace hR := hR.fr hF1 (fun h => h) (fun h => h); replace hO := hF1.blk hO (fun h => h); have c0 := cell_at hO 0; have c1 := cell_at hO 1; simp at c0 c1; replace hF := hF.trans hF1 (fun _ _ h => h) (fun _ _ h => h); replace hW := hW.fr hF1 (fun _ _ h => h))
            | (go_at_call 16; refine (rpush_full hR (by have := HL0.out; omega) _).mono ?_; rintro e w1 ⟨rfl, hR1, hF1⟩; replace hR := hR1; replace hO := hF1.blk hO (by omega); have c0 := cell_at hO 0; have c1 := cell_at hO 1; simp at c0 c1; replace hF := hF.ring hF1 (.inl (by omega)) (.inl (by omega)); replace hW := hW.fr hF1 (by omega))
            | (go_at_call 12; refine (rsize hR).mono ?_; rintro e w1 ⟨rfl, rfl⟩)
            | (go_at_call 22; refine (rlen hR HL).mono ?_; rintro e w1 ⟨rfl, rfl⟩)
            | (go_at_call 26; refine (rall hR).mono ?_; rintro e w1 ⟨v2, rfl, hW2, hF1⟩; replace hR := hR.fr hF1 (fun h => h) (fun h => h); replace hO := hF1.blk hO (fun h => h); have c0 := cell_at hO 0; have c1 := cell_at hO 1; simp at c0 c1; replace hF := hF.trans hF1 (fun _ _ h => h) (fun _ _ h => h); replace hW := hW.fr hF1 (fun _ _ h => h))
            | (go_at_call 25; refine (same_true (hW2.sl (by have := HL.out; omega)) (hW.sl (by have := HL.out; omega)) (by have := HL.out; omega)).mono ?_; rintro e w1 ⟨rfl, hF1⟩; replace hR := hR.fr hF1 (fun h => h) (fun h => h); replace hO := hF1.blk hO (fun h => h); have c0 := cell_at hO 0; have c1 := cell_at hO 1; simp at c0 c1; replace hF := hF.trans hF1 (fun _ _ h => h) (fun _ _ h => h)))
          go_roundw
          case rel => exact ⟨k + 1, l, by omega, by go_num, by rw [HL.out], hR, hF⟩
          case measure => simp [intOf]; omega
      · rcases l with _ | ⟨y, l⟩
        · obtain rfl : ln = 0 := HL0.out.symm
          have HL : Hid ((([] : List Int)).length = 0) := hide (by rfl)
          go_wp2_with (first
            | (go_at_call 13; refine (kind_val hkd _ _).mono ?_; rintro e w1 ⟨rfl, hF1⟩; replace hR := hR.fr hF1 (fun h => h) (fun h => h); replace hO := hF1.blk hO (fun h => h); have c0 := cell_at hO 0; have c1 := cell_at hO 1; simp at c0 c1; replace hF := hF.trans hF1 (fun _ _ h => h) (fun _ _ h => h); replace hW := hW.fr hF1 (fun _ _ h => h))
            | (go_at_call 18; refine (rtake_none hR).mono ?_; rintro e w1 ⟨rfl, hR1, hF1⟩; replace hR := hR1; replace hO := hF1.blk hO (by omega); have c0 := cell_at hO 0; have c1 := cell_at hO 1; simp at c0 c1; replace hF := hF.ring hF1 (.inl (by omega)) (.inl (by omega)); replace hW := hW.fr hF1 (by omega))
            | (go_at_call 12; refine (rsize hR).mono ?_; rintro e w1 ⟨rfl, rfl⟩)
            | (go_at_call 22; refine (rlen hR HL).mono ?_; rintro e w1 ⟨rfl, rfl⟩)
            | (go_at_call 26; refine (rall hR).mono ?_; rintro e w1 ⟨v2, rfl, hW2, hF1⟩; replace hR := hR.fr hF1 (fun h => h) (fun h => h); replace hO := hF1.blk hO (fun h => h); have c0 := cell_at hO 0; have c1 := cell_at hO 1; simp at c0 c1; replace hF := hF.trans hF1 (fun _ _ h => h) (fun _ _ h => h); replace hW := hW.fr hF1 (fun _ _ h => h))
            | (go_at_call 25; refine (same_true (hW2.sl (by have := HL.out; omega)) (hW.sl (by have := HL.out; omega)) (by have := HL.out; omega)).mono ?_; rintro e w1 ⟨rfl, hF1⟩; replace hR := hR.fr hF1 (fun h => h) (fun h => h); replace hO := hF1.blk hO (fun h => h); have c0 := cell_at hO 0; have c1 := cell_at hO 1; simp at c0 c1; replace hF := hF.trans hF1 (fun _ _ h => h) (fun _ _ h => h)))
          go_roundw
          case rel => exact ⟨k + 1, ([] : List Int), by omega, by go_num, by rfl, hR, hF⟩
          case measure => simp [intOf]; omega
        · obtain ⟨m, rfl⟩ : ∃ m, ln = m + 1 := ⟨l.length, HL0.out.symm⟩
          have hml : l.length = m := by have := HL0.out; simpa using this
          have HM := hide hml
          clear hml
          have HL : Hid ((l).length = m) := hide (by exact HM.out)
          go_wp2_with (first
            | (go_at_call 13; refine (kind_val hkd _ _).mono ?_; rintro e w1 ⟨rfl, hF1⟩; replace hR := hR.fr hF1 (fun h => h) (fun h => h); replace hO := hF1.blk hO (fun h => h); have c0 := cell_at hO 0; have c1 := cell_at hO 1; simp at c0 c1; replace hF := hF.trans hF1 (fun _ _ h => h) (fun _ _ h => h); replace hW := hW.fr hF1 (fun _ _ h => h))
            | (go_at_call 18; refine (rtake_some hR).mono ?_; rintro e w1 ⟨rfl, hR1, hF1⟩; replace hR := hR1; replace hO := hF1.blk hO (by omega); have c0 := cell_at hO 0; have c1 := cell_at hO 1; simp at c0 c1; replace hF := hF.ring hF1 (.inl (by omega)) (.inl (by omega)); replace hW := hW.fr hF1 (by omega))
            | (go_at_call 12; refine (rsize hR).mono ?_; rintro e w1 ⟨rfl, rfl⟩)
            | (go_at_call 22; refine (rlen hR HL).mono ?_; rintro e w1 ⟨rfl, rfl⟩)
            | (go_at_call 26; refine (rall hR).mono ?_; rintro e w1 ⟨v2, rfl, hW2, hF1⟩; replace hR := hR.fr hF1 (fun h => h) (fun h => h); replace hO := hF1.blk hO (fun h => h); have c0 := cell_at hO 0; have c1 := cell_at hO 1; simp at c0 c1; replace hF := hF.trans hF1 (fun _ _ h => h) (fun _ _ h => h); replace hW := hW.fr hF1 (fun _ _ h => h))
            | (go_at_call 25; refine (same_true (hW2.sl (by have := HL.out; omega)) (hW.sl (by have := HL.out; omega)) (by have := HL.out; omega)).mono ?_; rintro e w1 ⟨rfl, hF1⟩; replace hR := hR.fr hF1 (fun h => h) (fun h => h); replace hO := hF1.blk hO (fun h => h); have c0 := cell_at hO 0; have c1 := cell_at hO 1; simp at c0 c1; replace hF := hF.trans hF1 (fun _ _ h => h) (fun _ _ h => h)))
          go_roundw
          case rel => exact ⟨k + 1, l, by omega, by go_num, by first | (rw [HL.out]; done) | (rw [HL.out]; go_num), hR, hF⟩
          case measure => simp [intOf]; omega
      · rcases List.eq_nil_or_concat l with rfl | ⟨l2, y, rfl⟩
        · obtain rfl : ln = 0 := HL0.out.symm
          have HL : Hid ((([] : List Int)).length = 0) := hide (by rfl)
          go_wp2_with (first
            | (go_at_call 13; refine (kind_val hkd _ _).mono ?_; rintro e w1 ⟨rfl, hF1⟩; replace hR := hR.fr hF1 (fun h => h) (fun h => h); replace hO := hF1.blk hO (fun h => h); have c0 := cell_at hO 0; have c1 := cell_at hO 1; simp at c0 c1; replace hF := hF.trans hF1 (fun _ _ h => h) (fun _ _ h => h); replace hW := hW.fr hF1 (fun _ _ h => h))
            | (go_at_call 20; refine (rpop_none hR).mono ?_; rintro e w1 ⟨rfl, hR1, hF1⟩; replace hR := hR1; replace hO := hF1.blk hO (by omega); have c0 := cell_at hO 0; have c1 := cell_at hO 1; simp at c0 c1; replace hF := hF.ring hF1 (.inl (by omega)) (.inl (by omega)); replace hW := hW.fr hF1 (by omega))
            | (go_at_call 12; refine (rsize hR).mono ?_; rintro e w1 ⟨rfl, rfl⟩)
            | (go_at_call 22; refine (rlen hR HL).mono ?_; rintro e w1 ⟨rfl, rfl⟩)
            | (go_at_call 26; refine (rall hR).mono ?_; rintro e w1 ⟨v2, rfl, hW2, hF1⟩; replace hR := hR.fr hF1 (fun h => h) (fun h => h); replace hO := hF1.blk hO (fun h => h); have c0 := cell_at hO 0; have c1 := cell_at hO 1; simp at c0 c1; replace hF := hF.trans hF1 (fun _ _ h => h) (fun _ _ h => h); replace hW := hW.fr hF1 (fun _ _ h => h))
            | (go_at_call 25; refine (same_true (hW2.sl (by have := HL.out; omega)) (hW.sl (by have := HL.out; omega)) (by have := HL.out; omega)).mono ?_; rintro e w1 ⟨rfl, hF1⟩; replace hR := hR.fr hF1 (fun h => h) (fun h => h); replace hO := hF1.blk hO (fun h => h); have c0 := cell_at hO 0; have c1 := cell_at hO 1; simp at c0 c1; replace hF := hF.trans hF1 (fun _ _ h => h) (fun _ _ h => h)))
          go_roundw
          case rel => exact ⟨k + 1, ([] : List Int), by omega, by go_num, by rfl, hR, hF⟩
          case measure => simp [intOf]; omega
        · obtain ⟨m, rfl⟩ : ∃ m, ln = m + 1 := ⟨l2.length, by have := HL0.out; simp at this; omega⟩
          have hml : l2.length = m := by have := HL0.out; simpa using this
          have HM := hide hml
          clear hml
          rw [List.concat_eq_append] at hR hW HL0
          have HL : Hid ((l2).length = m) := hide (by exact HM.out)
          go_wp2_with (first
            | (go_at_call 13; refine (kind_val hkd _ _).mono ?_; rintro e w1 ⟨rfl, hF1⟩; replace hR := hR.fr hF1 (fun h => h) (fun h => h); replace hO := hF1.blk hO (fun h => h); have c0 := cell_at hO 0; have c1 := cell_at hO 1; simp at c0 c1; replace hF := hF.trans hF1 (fun _ _ h => h) (fun _ _ h => h); replace hW := hW.fr hF1 (fun _ _ h => h))
            | (go_at_call 20; refine (rpop_some hR).mono ?_; rintro e w1 ⟨rfl, hR1, hF1⟩; replace hR := hR1; replace hO := hF1.blk hO (by omega); have c0 := cell_at hO 0; have c1 := cell_at hO 1; simp at c0 c1; replace hF := hF.ring hF1 (.inl (by omega)) (.inl (by omega)); replace hW := hW.fr hF1 (by omega))
            | (go_at_call 12; refine (rsize hR).mono ?_; rintro e w1 ⟨rfl, rfl⟩)
            | (go_at_call 22; refine (rlen hR HL).mono ?_; rintro e w1 ⟨rfl, rfl⟩)
            | (go_at_call 26; refine (rall hR).mono ?_; rintro e w1 ⟨v2, rfl, hW2, hF1⟩; replace hR := hR.fr hF1 (fun h => h) (fun h => h); replace hO := hF1.blk hO (fun h => h); have c0 := cell_at hO 0; have c1 := cell_at hO 1; simp at c0 c1; replace hF := hF.trans hF1 (fun _ _ h => h) (fun _ _ h => h); replace hW := hW.fr hF1 (fun _ _ h => h))
            | (go_at_call 25; refine (same_true (hW2.sl (by have := HL.out; omega)) (hW.sl (by have := HL.out; omega)) (by have := HL.out; omega)).mono ?_; rintro e w1 ⟨rfl, hF1⟩; replace hR := hR.fr hF1 (fun h => h) (fun h => h); replace hO := hF1.blk hO (fun h => h); have c0 := cell_at hO 0; have c1 := cell_at hO 1; simp at c0 c1; replace hF := hF.trans hF1 (fun _ _ h => h) (fun _ _ h => h)))
          go_roundw
          case rel => exact ⟨k + 1, l2, by omega, by go_num, by first | (rw [HL.out]; done) | (rw [HL.out]; go_num), hR, hF⟩
          case measure => simp [intOf]; omega
    · obtain rfl : k = n1 := by omega
      go_wp2
      go_ret
      exact ⟨rfl, hF⟩

end Go.Proofs.Ytanmhjnelhjejaa
