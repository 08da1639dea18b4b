/-
  RingPlays: a ring holds, refuses and gives back what the document says.
-/
import Derived.Test.YtkojdjeiblknhaaRgPs
namespace Go.Proofs.Ytkojdjeiblknhaa
open Go.RowKit
set_option linter.unusedVariables false
set_option maxRecDepth 8192

set_option maxHeartbeats 60000000 in
theorem plays_calls {w : World} (size : Int) {a1 : Option Addr} {n1 k1 : Nat} {ops : List (Int × Int)} (A1 : PrA w.heap.size w a1 n1 ops) :
    Calls Try.prog 3 #[.int .i64 size, .slice a1 n1 k1] w fun e w' => e = .returned (.bool true) ∧ Fr (fun _ => False) w w' := by
  have s1 := A1.small
  go_enter Try.func3, Try.ntmps3
  go_wp2_with (first
    | (go_at_call 9; refine (lives_calls _).mono ?_; rintro e w1 ⟨rfl, hF0⟩)
    | (go_at_call 10; refine (rnew2 _ _).mono ?_; rintro e w2 ⟨G, S, hG0, hS0, rfl, hR, hF⟩)
    | (go_at_call 11; refine (mnew2 (unhide hS0) _).mono ?_; rintro e w3 ⟨M, hM0, rfl, hM, hF3⟩))
  have hS1 := clamp_pos size
  have hS2 := clamp_most size
  rw [hS0.out] at hS1 hS2
  have hG : w.heap.size ≤ G := by rw [← hG0.out]; exact hF0.size
  have hGM : G + 1 < M := by rw [← hM0.out]; obtain ⟨f, h⟩ := hR; exact lt_of_blk h.blk
  have hP : P0 w G M S [] [] w3 := ⟨hR.fr hF3 (fun h => h) (fun h => h), hM, hGM, (hF0.trans hF (fun _ _ h => h) (fun _ _ h => h)).trans hF3 (fun _ _ h => h) (fun _ _ h => h), hG⟩
  clear hG0 hS0 hF0 hM0 hR hF hM hF3
  obtain ⟨a0, c00, d0, d1, _⟩ := hP.v
  go_quiet ((go_at_call 12; exact quiet_same (rsize (Rg.drewN hP.1 _))))
  go_wp2
  clear d0 d1
  go_loopw [7] (fun i wr => ∃ (k : Nat) (l : List Int), k ≤ n1 ∧ i = .int .i64 k ∧ P0 w G M S l l wr) (fun i _ => n1 - (intOf i).toNat)
  case atStart => exact ⟨0, [], by omega, rfl, hP.q ((Fr.refl _ _).drewN _)⟩
  case round =>
    clear hP
    obtain ⟨k, l, hk, rfl, hP⟩ := hrel
    by_cases hlt : k < n1
    · have hPF := hP.2.2.2.1
      obtain ⟨ba, off, ⟨kk, x⟩, vs, rfl, hba, hx, hc, rfl, _, _⟩ := (A1.fr hPF (fun _ h => h.elim)).at hlt
      have d0 : wr.cell? ⟨ba, off + k * 2, none⟩ = some (.int .i64 kk) := by simpa using hc 0 _ rfl
      have d1 : wr.cell? ⟨ba, off + k * 2 + 1, none⟩ = some (.int .i64 x) := by simpa using hc 1 _ rfl
      have hlt' : (k : Int) < (n1 : Int) := by omega
      have hZ := hP.2.1.lt
      have hQ : PS w G M S wr.heap.size kk x l l (wr.alloc (.cells #[.int .i64 kk, .int .i64 x] 33)) := ⟨hP.q ((Fr.refl _ wr).alloc _), hZ, blk_new _ _⟩
      clear hx hc hP hPF
      go_upto_region 10 with fail
      generalize hW : wr.alloc (.cells #[.int .i64 kk, .int .i64 x] 33) = wa at *
      generalize hbo : wr.heap.size = bo at *
      clear hW hbo d0 d1
      have c0 := hQ.c0
      have c1 := hQ.c1
      rcases kd_lt kk with hkd | hkd | hkd | hkd
      · by_cases hroom : l.length < S
        · have hrI : (l.length : Int) < (S : Int) := by omega
          go_upto_region 13 with (go_at_call 13; refine (ps_kind hQ hkd).mono ?_; rintro e w1 ⟨rfl, hQ⟩; have c0 := hQ.c0; have c1 := hQ.c1)
          go_region_with (first
            | (go_at_call 14; refine (ps_rput (by first | exact hQ.q (Fr.refl _ _).drew | exact hQ2) hroom).mono ?_; rintro e w2 ⟨rfl, hQ1⟩; have e1 := hQ1.c1)
            | (go_at_call 15; refine (ps_mput (by first | exact hQ.q (Fr.refl _ _).drew | exact hQ1) hroom).mono ?_; rintro e w2 ⟨rfl, hQ2⟩; have e2 := hQ2.c1))
          all_goals
            have hQF : PS w G M S bo kk x (l ++ [x]) (l ++ [x]) w2 := by first | exact hQ2 | exact hQ1
            obtain ⟨av, cv, v0, v1, _⟩ := hQF.1.v
            go_wp2
            go_quiet ((go_at_call 22; exact quiet_same (rlen (Rg.drewN hQF.1.1 _) (hide rfl))))
            go_wp2
            go_roundw
            case rel => exact ⟨k + 1, (l ++ [x]), by omega, by go_num, hQF.1.q ((Fr.refl _ _).drewN _)⟩
            case measure => simp [intOf]; omega
        · have hrI : (S : Int) ≤ (l.length : Int) := by omega
          go_upto_region 13 with (go_at_call 13; refine (ps_kind hQ hkd).mono ?_; rintro e w1 ⟨rfl, hQ⟩; have c0 := hQ.c0; have c1 := hQ.c1)
          go_region_with (first
            | (go_at_call 14; refine (ps_rputf (by first | exact hQ.q (Fr.refl _ _).drew | exact hQ2) hroom).mono ?_; rintro e w2 ⟨rfl, hQ1⟩; have e1 := hQ1.c1)
            | (go_at_call 15; refine (ps_mputf (by first | exact hQ.q (Fr.refl _ _).drew | exact hQ1) hroom).mono ?_; rintro e w2 ⟨rfl, hQ2⟩; have e2 := hQ2.c1))
          all_goals
            have hQF : PS w G M S bo kk x l l w2 := by first | exact hQ2 | exact hQ1
            obtain ⟨av, cv, v0, v1, _⟩ := hQF.1.v
            go_wp2
            go_quiet ((go_at_call 22; exact quiet_same (rlen (Rg.drewN hQF.1.1 _) (hide rfl))))
            go_wp2
            go_roundw
            case rel => exact ⟨k + 1, l, by omega, by go_num, hQF.1.q ((Fr.refl _ _).drewN _)⟩
            case measure => simp [intOf]; omega
      · by_cases hroom : l.length < S
        · have hrI : (l.length : Int) < (S : Int) := by omega
          go_upto_region 15 with (go_at_call 13; refine (ps_kind hQ hkd).mono ?_; rintro e w1 ⟨rfl, hQ⟩; have c0 := hQ.c0; have c1 := hQ.c1)
          go_region_with (first
            | (go_at_call 16; refine (ps_rpush (by first | exact hQ.q (Fr.refl _ _).drew | exact hQ2) hroom).mono ?_; rintro e w2 ⟨rfl, hQ1⟩; have e1 := hQ1.c1)
            | (go_at_call 17; refine (ps_mpush (by first | exact hQ.q (Fr.refl _ _).drew | exact hQ1) hroom).mono ?_; rintro e w2 ⟨rfl, hQ2⟩; have e2 := hQ2.c1))
          all_goals
            have hQF : PS w G M S bo kk x (x :: l) (x :: l) w2 := by first | exact hQ2 | exact hQ1
            obtain ⟨av, cv, v0, v1, _⟩ := hQF.1.v
            go_wp2
            go_quiet ((go_at_call 22; exact quiet_same (rlen (Rg.drewN hQF.1.1 _) (hide rfl))))
            go_wp2
            go_roundw
            case rel => exact ⟨k + 1, (x :: l), by omega, by go_num, hQF.1.q ((Fr.refl _ _).drewN _)⟩
            case measure => simp [intOf]; omega
        · have hrI : (S : Int) ≤ (l.length : Int) := by omega
          go_upto_region 15 with (go_at_call 13; refine (ps_kind hQ hkd).mono ?_; rintro e w1 ⟨rfl, hQ⟩; have c0 := hQ.c0; have c1 := hQ.c1)
          go_region_with (first
            | (go_at_call 16; refine (ps_rpushf (by first | exact hQ.q (Fr.refl _ _).drew | exact hQ2) hroom).mono ?_; rintro e w2 ⟨rfl, hQ1⟩; have e1 := hQ1.c1)
            | (go_at_call 17; refine (ps_mpushf (by first | exact hQ.q (Fr.refl _ _).drew | exact hQ1) hroom).mono ?_; rintro e w2 ⟨rfl, hQ2⟩; have e2 := hQ2.c1))
          all_goals
            have hQF : PS w G M S bo kk x l l w2 := by first | exact hQ2 | exact hQ1
            obtain ⟨av, cv, v0, v1, _⟩ := hQF.1.v
            go_wp2
            go_quiet ((go_at_call 22; exact quiet_same (rlen (Rg.drewN hQF.1.1 _) (hide rfl))))
            go_wp2
            go_roundw
            case rel => exact ⟨k + 1, l, by omega, by go_num, hQF.1.q ((Fr.refl _ _).drewN _)⟩
            case measure => simp [intOf]; omega
      · rcases l with _ | ⟨y, l⟩
        · skip
          go_upto_region 24 with (first
            | (go_at_call 13; refine (ps_kind hQ hkd).mono ?_; rintro e w1 ⟨rfl, hQ⟩; have c0 := hQ.c0; have c1 := hQ.c1)
            | (go_at_call 18; refine (ps_rtaken hQ).mono ?_; rintro e w2 ⟨rfl, hQ1⟩)
            | (go_at_call 19; refine (ps_mtaken hQ1).mono ?_; rintro e w2 ⟨rfl, hQF⟩))
          obtain ⟨av, cv, v0, v1, _⟩ := hQF.1.v
          go_wp2
          go_quiet ((go_at_call 22; exact quiet_same (rlen (Rg.drewN hQF.1.1 _) (hide rfl))))
          go_wp2
          go_roundw
          case rel => exact ⟨k + 1, ([] : List Int), by omega, by go_num, hQF.1.q ((Fr.refl _ _).drewN _)⟩
          case measure => simp [intOf]; omega
        · skip
          go_upto_region 24 with (first
            | (go_at_call 13; refine (ps_kind hQ hkd).mono ?_; rintro e w1 ⟨rfl, hQ⟩; have c0 := hQ.c0; have c1 := hQ.c1)
            | (go_at_call 18; refine (ps_rtake hQ).mono ?_; rintro e w2 ⟨rfl, hQ1⟩)
            | (go_at_call 19; refine (ps_mtake hQ1).mono ?_; rintro e w2 ⟨rfl, hQF⟩))
          obtain ⟨av, cv, v0, v1, _⟩ := hQF.1.v
          go_wp2
          go_quiet ((go_at_call 22; exact quiet_same (rlen (Rg.drewN hQF.1.1 _) (hide rfl))))
          go_wp2
          go_roundw
          case rel => exact ⟨k + 1, l, by omega, by go_num, hQF.1.q ((Fr.refl _ _).drewN _)⟩
          case measure => simp [intOf]; omega
      · rcases List.eq_nil_or_concat l with rfl | ⟨l2, y, rfl⟩
        · skip
          go_upto_region 24 with (first
            | (go_at_call 13; refine (ps_kind hQ hkd).mono ?_; rintro e w1 ⟨rfl, hQ⟩; have c0 := hQ.c0; have c1 := hQ.c1)
            | (go_at_call 20; refine (ps_rpopn hQ).mono ?_; rintro e w2 ⟨rfl, hQ1⟩)
            | (go_at_call 21; refine (ps_mpopn hQ1).mono ?_; rintro e w2 ⟨rfl, hQF⟩))
          obtain ⟨av, cv, v0, v1, _⟩ := hQF.1.v
          go_wp2
          go_quiet ((go_at_call 22; exact quiet_same (rlen (Rg.drewN hQF.1.1 _) (hide rfl))))
          go_wp2
          go_roundw
          case rel => exact ⟨k + 1, ([] : List Int), by omega, by go_num, hQF.1.q ((Fr.refl _ _).drewN _)⟩
          case measure => simp [intOf]; omega
        · rw [List.concat_eq_append] at hQ
          go_upto_region 24 with (first
            | (go_at_call 13; refine (ps_kind hQ hkd).mono ?_; rintro e w1 ⟨rfl, hQ⟩; have c0 := hQ.c0; have c1 := hQ.c1)
            | (go_at_call 20; refine (ps_rpop hQ).mono ?_; rintro e w2 ⟨rfl, hQ1⟩)
            | (go_at_call 21; refine (ps_mpop hQ1).mono ?_; rintro e w2 ⟨rfl, hQF⟩))
          obtain ⟨av, cv, v0, v1, _⟩ := hQF.1.v
          go_wp2
          go_quiet ((go_at_call 22; exact quiet_same (rlen (Rg.drewN hQF.1.1 _) (hide rfl))))
          go_wp2
          go_roundw
          case rel => exact ⟨k + 1, l2, by omega, by go_num, hQF.1.q ((Fr.refl _ _).drewN _)⟩
          case measure => simp [intOf]; omega
    · obtain rfl : k = n1 := by omega
      have hLS := hP.1.len
      obtain ⟨av, cv, v0, v1, hSl⟩ := hP.v
      go_wp2
      clear v0 v1 hSl
      go_loopw [18] (fun i wr => ∃ (j : Nat), j ≤ l.length + 2 ∧ i = .int .i64 ((j : Int) - 1) ∧ P0 w G M S l l wr) (fun i _ => l.length + 2 - (intOf i + 1).toNat)
      case atStart => exact ⟨0, by omega, rfl, hP⟩
      case round =>
        clear hP
        obtain ⟨j, hj, rfl, hP⟩ := hrel
        obtain ⟨av, cv, v0, v1, hSl⟩ := hP.v
        by_cases hjl : j ≤ l.length + 1
        · have hjl' : (j : Int) - 1 ≤ (l.length : Int) := by omega
          by_cases hin : 1 ≤ j ∧ j ≤ l.length
          · obtain ⟨i, rfl⟩ : ∃ i, j = i + 1 := ⟨j - 1, by omega⟩
            obtain ⟨y, hy⟩ : ∃ y, l[i]? = some y := ⟨l[i]'(by omega), List.getElem?_eq_getElem _⟩
            rw [show ((i + 1 : Nat) : Int) - 1 = (i : Int) by omega] at hjl' ⊢
            have HY := hide hy
            clear hy
            go_wp2_with (first
              | (go_at_call 23; refine (rat_some hP.1 i y (unhide HY)).mono ?_; rintro e w2 ⟨rfl, hF2⟩; replace hP := hP.q hF2)
              | (go_at_call 24; refine (mat_some hP.2.1 i y (unhide HY)).mono ?_; rintro e w2 ⟨rfl, rfl⟩))
            go_roundw
            case rel => exact ⟨i + 2, by omega, by go_num, hP⟩
            case measure => simp [intOf]; omega
          · have hin' : (j : Int) - 1 < 0 ∨ (j : Int) - 1 ≥ (l.length : Int) := by omega
            clear hin
            go_wp2_with (first
              | (go_at_call 23; refine (rat_none hP.1 _ hin').mono ?_; rintro e w2 ⟨rfl, rfl⟩)
              | (go_at_call 24; refine (mat_none hP.2.1 _ hin').mono ?_; rintro e w2 ⟨rfl, rfl⟩))
            go_roundw
            case rel => exact ⟨j + 1, by omega, by go_num, hP⟩
            case measure => simp [intOf]; omega
        · have hjl' : (l.length : Int) < (j : Int) - 1 := by omega
          go_wp2
          go_region_with (first
            | (go_at_call 26; refine (rall hP.1.drew).mono ?_; rintro e w2 ⟨va, rfl, hO, hF2⟩; have hP2 := (hP.q (Fr.refl _ _).drew).q hF2; obtain ⟨av2, cv2, v02, v12, hSl2⟩ := hP2.v; have hSl3 := (hSl.fr (Fr.refl _ wr).drew).fr hF2)
            | (go_at_call 25; refine (same_true (hO.sl (by omega)) (by first | exact hSl2 | exact hSl3) (by omega)).mono ?_; rintro e w3 ⟨rfl, hF3⟩))
          all_goals
            go_wp2
            go_ret
            exact ⟨rfl, (hP2.q hF3).2.2.2.1⟩

end Go.Proofs.Ytkojdjeiblknhaa
