/-
  RingOrder: what is put comes out in order.
-/
import Derived.Test.YtanmhjnelhjejaaRgFrame
import Derived.Deep.RegionWith
namespace Go.Proofs.Ytanmhjnelhjejaa
open Go.RowKit
set_option linter.unusedVariables false
set_option maxRecDepth 8192

theorem take_snoc {l : List Int} {k : Nat} {x : Int} (hx : l[k]? = some x) : l.take (k + 1) = l.take k ++ [x] := by rw [List.take_add_one, hx]; rfl
theorem take_put {l : List Int} {k S : Nat} {x : Int} (hx : l[k]? = some x) : putL S (l.take (min k S)) x = l.take (min (k + 1) S) := by
  have hk := (List.getElem?_eq_some_iff.1 hx).1
  unfold putL
  rw [List.length_take]
  by_cases h : k < S
  · rw [if_pos (by omega), Nat.min_eq_left (by omega), Nat.min_eq_left (by omega), take_snoc hx]
  · rw [if_neg (by omega), Nat.min_eq_right (by omega), Nat.min_eq_right (by omega)]
theorem drop_one {l : List Int} {k H : Nat} {x : Int} (hk : k < H) (hx : l[k]? = some x) : (l.take H).drop k = x :: (l.take H).drop (k + 1) := by
  have h0 := (List.getElem?_eq_some_iff.1 hx).1
  have h1 : k < (l.take H).length := by rw [List.length_take]; omega
  rw [List.drop_eq_getElem_cons h1]
  congr 1
  rw [List.getElem_take]
  exact (List.getElem?_eq_some_iff.1 hx).2

theorem turn_lt (t : Int) : wrap64 ((IntKind.u64.wrap t).tmod 20) < 20 := by
  have h1 : 0 ≤ IntKind.u64.wrap t := by simp [IntKind.wrap, IntKind.signed, IntKind.bits]; omega
  obtain ⟨n, hn⟩ := Int.eq_ofNat_of_zero_le h1
  rw [hn]
  have e : (Int.ofNat n).tmod 20 = ((n % 20 : Nat) : Int) := rfl
  have h2 := Nat.mod_lt n (show 0 < 20 by omega)
  simp only [Int.ofNat_eq_natCast] at e ⊢
  rw [e]
  unfold wrap64
  omega


theorem rnew2 (n : Int) (w : World) :
    Calls Try.prog 10 #[.int .i64 n] w fun e w' => ∃ G S, Hid (w.heap.size = G) ∧ Hid (clamp n = S) ∧ e = .returned (.pointer (some ⟨G + 1, 0, none⟩)) ∧ Rg w' (G + 1) G S [] ∧ Fr (fun _ => False) w w' :=
  (rnew n w).mono fun e w' ⟨h1, h2, h3⟩ => ⟨_, _, hide rfl, hide rfl, h1, h2, h3⟩

set_option maxHeartbeats 4000000 in
theorem order_calls {w : World} (size t : Int) {a1 a2 : Option Addr} {n1 n2 k1 k2 : Nat} {l1 l2 : List Int} (A1 : NA w.heap.size w a1 n1 l1) (A2 : NA w.heap.size w a2 n2 l2) :
    Calls Try.prog 5 #[.int .i64 size, rowV a1 n1 k1 a2 n2 k2 t] w fun e w' => e = .returned (.bool true) ∧ Fr (fun _ => False) w w' := by
  unfold rowV
  have s1 := A1.small
  have s2 := A2.small
  have e1 := hide A1.len
  have e2 := hide A2.len
  go_enter Try.func5, Try.ntmps5
  go_wp2_with (go_at_call 9; refine (lives_calls _).mono ?_; rintro e w1 ⟨rfl, hF⟩)
  have hB := hF.blk (blk_new _ _) (fun h => h)
  have hF0 : Fr (fun _ => False) w w1 := ((Fr.refl (fun _ => False) w).alloc _).trans hF (fun _ _ h => h) (fun _ _ h => h)
  have hZ := hF.size
  simp at hZ
  clear hF
  have c0 := cell_at hB 0
  have c1 := cell_at hB 1
  simp at c0 c1
  go_quiet (fail)
  go_wp2_with (go_at_call 10; refine (rnew2 _ _).mono ?_; rintro e w2 ⟨G, S, hG0, hS0, rfl, hR, hF⟩)
  have hG : w1.heap.size = G := hG0.out
  have hS1 := clamp_pos size
  have hS2 := clamp_most size
  rw [hS0.out] at hS1 hS2
  have hZ2 : w.heap.size + 1 ≤ G := by omega
  go_loopw [8] (fun i wr => ∃ k : Nat, k ≤ 20 ∧ i = .int .i64 k ∧ Rg wr (G + 1) G S [] ∧ wr.heap[w.heap.size]? = some (.cells #[.slice a1 n1 k1, .slice a2 n2 k2, .int .i64 t] 47 (0, 0)) ∧ Fr (fun _ => False) w wr) (fun i _ => 20 - (intOf i).toNat)
  case atStart => exact ⟨0, by omega, rfl, hR, hF.blk (k := w.heap.size) hB (fun h => h), hF0.trans (b := w1) (c := w2) (S' := fun _ => False) ⟨hF.os, hF.tape, hF.output, hF.size, hF.block⟩ (fun _ _ h => h) (fun _ _ h => h)⟩
  case round =>
    obtain ⟨k, hk, rfl, hR, hB, hF⟩ := hrel
    have c2 := cell_at hB 2
    simp at c2
    clear hG0 hS0 hZ hF0
    have hT := turn_lt t
    by_cases hlt : (k : Int) < wrap64 ((IntKind.u64.wrap t).tmod 20)
    · go_wp2_with (first
        | (go_at_call 14; refine (rput_ok (l := []) (by assumption) hS1 _).mono ?_; rintro e w3 ⟨rfl, hR3, hF3⟩; replace hR3 : Rg _ _ _ _ [(k : Int)] := hR3)
        | (go_at_call 18; refine (rtake_some (by assumption)).mono ?_; rintro e w4 ⟨rfl, hR4, hF4⟩))
      go_roundw
      case rel => exact ⟨k + 1, by omega, by go_num, hR4, hF4.blk (hF3.blk hB (by omega)) (by omega), (hF.ring hF3 (.inl (by omega)) (.inl (by omega))).ring hF4 (.inl (by omega)) (.inl (by omega))⟩
      case measure => simp [intOf]; omega
    have hge : wrap64 ((IntKind.u64.wrap t).tmod 20) ≤ (k : Int) := by omega
    clear hlt
    go_wp2
    clear hB c2
    go_loopw [9] (fun i wr => ∃ k : Nat, k ≤ n1 ∧ i = .int .i64 k ∧ Rg wr (G + 1) G S (l1.take (min k S)) ∧ Fr (fun _ => False) w wr) (fun i _ => n1 - (intOf i).toNat)
    case atStart => exact ⟨0, by omega, rfl, by simpa using hR, hF⟩
    case round =>
      clear hR hF hge hk hT
      obtain ⟨k, hk, rfl, hR, hF⟩ := hrel
      by_cases hlt : k < n1
      · obtain ⟨ba, off, x, rfl, hba, hx, hc⟩ := (A1.fr hF (fun _ h => h.elim)).num hlt
        have HX := hide hx
        clear hx
        have hlt' : (k : Int) < (n1 : Int) := by omega
        go_wp2_with (go_at_call 14; refine (rput (by assumption) _).mono ?_; rintro e w3 ⟨rfl, hR3, hF3⟩)
        go_roundw
        case rel => exact ⟨k + 1, by omega, by go_num, by rw [← take_put HX.out]; exact hR3, hF.ring hF3 (.inl (by omega)) (.inl (by omega))⟩
        case measure => simp [intOf]; omega
      have hge : (n1 : Int) ≤ (k : Int) := by omega
      have hkn : k = n1 := by omega
      rw [hkn] at hR
      obtain ⟨H, hH⟩ : ∃ H, min n1 S = H := ⟨_, rfl⟩
      have hHI : min (n1 : Int) (S : Int) = (H : Int) := by omega
      have hHS : H ≤ S := by omega
      have HL : Hid ((l1.take (min n1 S)).length = H) := hide (by rw [List.length_take, e1.out]; omega)
      have HH := hide hH
      clear hH hkn hlt
      go_wp2_with (first
        | (go_at_call 22; refine (rlen (by assumption) HL).mono ?_; rintro e w3 ⟨rfl, rfl⟩)
        | (go_at_call 12; refine (rsize (by assumption)).mono ?_; rintro e w3 ⟨rfl, rfl⟩))
      all_goals
        clear hge hk
        go_loopw [11, 12] (fun p i wr => ∃ k : Nat, k ≤ n2 ∧ i = .int .i64 k ∧ p = .int .i64 (min k (S - H) : Nat) ∧ Rg wr (G + 1) G S (l1.take H ++ l2.take (min k (S - H))) ∧ Fr (fun _ => False) w wr) (fun p i _ => n2 - (intOf i).toNat)
        case atStart => exact ⟨0, by omega, rfl, by simp, by rw [HH.out] at hR; simpa using hR, hF⟩
        case round =>
          rw [HH.out] at HL
          clear hR hF
          obtain ⟨k, hk, rfl, rfl, hR, hF⟩ := hrel
          obtain ⟨q, hq⟩ : ∃ q, min k (S - H) = q := ⟨_, rfl⟩
          rw [hq] at hR ⊢
          have HQ := hide hq
          have hql : Hid ((l1.take H ++ l2.take q).length = H + q) := hide (by rw [List.length_append, HL.out, List.length_take, e2.out]; omega)
          clear hq
          by_cases hlt : k < n2
          · obtain ⟨ba, off, x, rfl, hba, hx, hc⟩ := (A2.fr hF (fun _ h => h.elim)).num hlt
            have HX := hide hx
            clear hx
            have hlt' : (k : Int) < (n2 : Int) := by omega
            by_cases hroom : H + q < S
            · go_wp2_with (go_at_call 14; refine (rput_ok (by assumption) (by rw [hql.out]; exact hroom) _).mono ?_; rintro e w3 ⟨rfl, hR3, hF3⟩)
              go_roundw
              case rel =>
                have := HQ.out
                obtain rfl : q = k := by omega
                exact ⟨q + 1, by omega, by go_num, by go_num, by rw [show min (q + 1) (S - H) = q + 1 by omega, take_snoc HX.out, ← List.append_assoc]; exact hR3, hF.ring hF3 (.inl (by omega)) (.inl (by omega))⟩
              case measure => simp [intOf]; omega
            · go_wp2_with (go_at_call 14; refine (rput_full (by assumption) (by rw [hql.out]; exact hroom) _).mono ?_; rintro e w3 ⟨rfl, hR3, hF3⟩)
              go_roundw
              case rel =>
                have := HQ.out
                exact ⟨k + 1, by omega, by go_num, by congr 2; omega, by rw [show min (k + 1) (S - H) = q by omega]; exact hR3, hF.ring hF3 (.inl (by omega)) (.inl (by omega))⟩
              case measure => simp [intOf]; omega
          have hkn : k = n2 := by omega
          have hge : (n2 : Int) ≤ (k : Int) := by omega
          have hP : Hid (min n2 (S - H) = q) := hide (by rw [← hkn]; exact HQ.out)
          have hPI : min (n2 : Int) ((S : Int) - (H : Int)) = (q : Int) := by have := hP.out; omega
          have hqS : H + q ≤ S := by have := hP.out; omega
          clear hkn hlt HQ
          go_wp2_with (go_at_call 12; refine (rsize (by assumption)).mono ?_; rintro e w3 ⟨rfl, rfl⟩)
          all_goals
            obtain ⟨D, hD⟩ : ∃ D, q / 2 = D := ⟨_, rfl⟩
            have hDI : (q : Int).tdiv 2 = (D : Int) := by rw [Int.tdiv_eq_ediv_of_nonneg (by omega)]; omega
            have hDq : D ≤ q := by omega
            have HD := hide hD
            have hqn : q ≤ n2 := by have := hP.out; omega
            have hHn : H ≤ n1 := by have := HH.out; omega
            clear hD hge hk hql
            go_loopw [13] (fun i wr => ∃ k : Nat, D ≤ k ∧ k ≤ q ∧ i = .int .i64 ((k : Int) - 1) ∧ Rg wr (G + 1) G S (l1.take H ++ l2.take k) ∧ Fr (fun _ => False) w wr) (fun i _ => (intOf i + 1).toNat)
            case atStart => exact ⟨q, hDq, Nat.le_refl _, by go_num, hR, hF⟩
            case round =>
              clear hR hF
              obtain ⟨k, hk1, hk, rfl, hR, hF⟩ := hrel
              by_cases hlt : D < k
              · obtain ⟨j, rfl⟩ : ∃ j, k = j + 1 := ⟨k - 1, by omega⟩
                obtain ⟨ba, off, x, rfl, hba, hx, hc⟩ := (A2.fr hF (fun _ h => h.elim)).num (show j < n2 by omega)
                rw [take_snoc hx, ← List.append_assoc] at hR
                have HX := hide hx
                have hlt' : (D : Int) ≤ (j : Int) := by omega
                have hj2 : (j : Int) < (n2 : Int) := by omega
                rw [show ((j + 1 : Nat) : Int) - 1 = (j : Int) by omega]
                clear hx
                go_wp2_with (go_at_call 20; refine (rpop_some (by assumption)).mono ?_; rintro e w3 ⟨rfl, hR3, hF3⟩; have hc3 := cell_fr hF3 (by omega) hc)
                go_roundw
                case rel => exact ⟨j, by omega, by omega, by go_num, hR3, hF.ring hF3 (.inl (by omega)) (.inl (by omega))⟩
                case measure => simp [intOf] <;> omega
              have hlt' : (k : Int) - 1 < (D : Int) := by omega
              have hkD : k = D := by omega
              rw [hkD] at hR
              clear hkD hlt
              go_wp2
              clear hlt' hk hk1
              go_loopw [16] (fun i wr => ∃ k : Nat, k ≤ H ∧ i = .int .i64 k ∧ Rg wr (G + 1) G S ((l1.take H).drop k ++ l2.take D) ∧ Fr (fun _ => False) w wr) (fun i _ => H - (intOf i).toNat)
              case atStart => exact ⟨0, by omega, rfl, by simpa using hR, hF⟩
              case round =>
                clear hR hF
                obtain ⟨k, hk, rfl, hR, hF⟩ := hrel
                by_cases hlt : k < H
                · obtain ⟨ba, off, x, rfl, hba, hx, hc⟩ := (A1.fr hF (fun _ h => h.elim)).num (show k < n1 by omega)
                  rw [drop_one hlt hx, List.cons_append] at hR
                  clear hx
                  have hlt' : (k : Int) < (H : Int) := by omega
                  have hj1 : (k : Int) < (n1 : Int) := by omega
                  go_wp2_with (go_at_call 18; refine (rtake_some (by assumption)).mono ?_; rintro e w3 ⟨rfl, hR3, hF3⟩; have hc3 := cell_fr hF3 (by omega) hc)
                  go_roundw
                  case rel => exact ⟨k + 1, by omega, by go_num, hR3, hF.ring hF3 (.inl (by omega)) (.inl (by omega))⟩
                  case measure => simp [intOf]; omega
                have hge : (H : Int) ≤ (k : Int) := by omega
                rw [List.drop_eq_nil_of_le (by rw [HL.out]; omega), List.nil_append] at hR
                clear hlt
                go_wp2
                have hfalse : decide (k < H) = false := by simp; omega
                rw [hfalse]
                clear hge hk hfalse
                go_loopw [19] (fun i wr => ∃ k : Nat, k ≤ D ∧ i = .int .i64 k ∧ Rg wr (G + 1) G S ((l2.take D).drop k) ∧ Fr (fun _ => False) w wr) (fun i _ => D - (intOf i).toNat)
                case atStart => exact ⟨0, by omega, rfl, by simpa using hR, hF⟩
                case round =>
                  clear hR hF
                  obtain ⟨k, hk, rfl, hR, hF⟩ := hrel
                  by_cases hlt : k < D
                  · obtain ⟨ba, off, x, rfl, hba, hx, hc⟩ := (A2.fr hF (fun _ h => h.elim)).num (show k < n2 by omega)
                    rw [drop_one hlt hx] at hR
                    clear hx
                    have hlt' : (k : Int) < (D : Int) := by omega
                    have hj1 : (k : Int) < (n2 : Int) := by omega
                    go_wp2_with (go_at_call 18; refine (rtake_some (by assumption)).mono ?_; rintro e w3 ⟨rfl, hR3, hF3⟩; have hc3 := cell_fr hF3 (by omega) hc)
                    go_roundw
                    case rel =>
                      exact ⟨k + 1, by omega, by go_num, hR3, hF.ring hF3 (.inl (by omega)) (.inl (by omega))⟩
                    case measure => simp [intOf]; omega
                  have hge : (D : Int) ≤ (k : Int) := by omega
                  rw [List.drop_eq_nil_of_le (by rw [List.length_take]; omega)] at hR
                  clear hlt
                  go_wp2_with (first
                    | (go_at_call 18; refine (rtake_none (by assumption)).mono ?_; rintro e w3 ⟨rfl, hR3, hF3⟩; replace hF := hF.ring hF3 (.inl (by omega)) (.inl (by omega)))
                    | (go_at_call 20; refine (rpop_none (by assumption)).mono ?_; rintro e w3 ⟨rfl, hR3, hF3⟩; replace hF := hF.ring hF3 (.inl (by omega)) (.inl (by omega)))
                    | (go_at_call 22; refine (rlen (n := 0) (by assumption) (hide (by rfl))).mono ?_; rintro e w3 ⟨rfl, rfl⟩))
                  go_ret
                  exact ⟨by simp, hF⟩

end Go.Proofs.Ytanmhjnelhjejaa
