/-
  MpscCalm: where Puts are done whole a Take finds the first value, or nothing.
-/
import Derived.Test.YtingpopcdihclabMqLinear
import Derived.Test.YtingpopcdihclabMqRun
namespace Go.Proofs.Ytingpopcdihclab
open Go.RowKit
set_option linter.unusedVariables false
set_option maxRecDepth 8192

/-- a step of an operation that is done whole -/
theorem run_step {q q' : Qu} {k n : Nat} {y : Qn} {R' : List Nat} (r : Run q k n y q' R') (hk : k < 8) {w : World} {lo b s : Nat} (hs : s < n) (h : Mp w lo b (qit q k s)) :
    Calls Try.prog 14 #[.pointer (some ⟨b, 0, none⟩), .int .i64 (k : Int)] w fun e w' => e = .returned (.tuple #[qnV (if s + 1 = n then y else Qn.none), .int .i64 0]) ∧ Mp w' lo b (qit q k (s + 1)) ∧ FrQ lo w w' := by
  obtain ⟨h1, h2⟩ := r.each s hs
  have := mstep h hk h1
  rw [h2] at this
  exact this

theorem Mp.row {w w' : World} {lo b lo' : Nat} {q : Qu} (h : Mp w lo b q) (hf : Fr (RowsOf w lo' 2) w w') : Mp w' lo b q :=
  h.fr hf (fun k hk hr => by obtain ⟨_, cs, e⟩ := hr; exact nonq e (by decide) (by decide) hk)

/-- where the law stands between two operations -/
def CaQ (w0 : World) (G : Nat) (j : Nat) (lv : Value) (w : World) : Prop :=
  ∃ (q : Qu) (R : List Nat), Mp w G (G + 1) q ∧ Lin q R ∧ (∀ i, q.th i = Rq.zero) ∧ OS w (G + 2) 2 1 lv R.length (rowV2 (R.map q.v)) ∧ q.ids.length ≤ j + 1 ∧ R.length ≤ j ∧ Fr (fun _ => False) w0 w

set_option maxHeartbeats 8000000 in
theorem calm_calls {w : World} {a1 : Option Addr} {n1 k1 : Nat} {rows : List Int} (A1 : NuA w.heap.size w a1 n1 rows) (hn1 : n1 * 8 ≤ 140737488351232) :
    Calls Try.prog 8 #[.slice a1 n1 k1] w fun e w' => e = .returned (.bool true) ∧ Fr (fun _ => False) w w' := by
  go_enter Try.func8, Try.ntmps8
  go_wp2_with (first
    | (go_at_call 9; refine (lives_calls _).mono ?_; rintro e w1 ⟨rfl, hF0⟩)
    | (go_at_call 10; refine (mnew _).mono ?_; rintro e w2 ⟨rfl, hM, hF1⟩))
  obtain ⟨G, hG⟩ : ∃ G, w1.heap.size = G := ⟨_, rfl⟩
  rw [hG] at hM
  simp only [hG]
  have hGw : w.heap.size ≤ G := by rw [← hG]; exact hF0.size
  have hst : CaQ w G 0 (.slice none 0 0) w2 := ⟨Qu.new G, [], hM, lin_new G, fun _ => rfl, OS.nil _ _ _ _, by simp [Qu.new], by simp, hF0.trans hF1 (fun _ _ h => h) (fun _ _ h => h)⟩
  clear hM hF0 hF1 hG
  go_loopw [4, 5] (fun l i wr => ∃ j : Nat, j ≤ n1 ∧ j ≤ 50000 ∧ i = .int .i64 j ∧ CaQ w G j l wr) (fun _ i _ => n1 - (intOf i).toNat)
  case atStart => exact ⟨0, by omega, by omega, rfl, hst⟩
  case round =>
    clear hst
    obtain ⟨j, hj, hj5, rfl, q, R, hM, L, hz, hO, hid, hRl, hF⟩ := hrel
    obtain ⟨N, hN⟩ : ∃ N, R.length = N := ⟨_, rfl⟩
    rw [hN] at hO hRl
    obtain ⟨la, lc, rfl, hlc1, hlc2, hlc3⟩ := hO.cell
    have HN := hide hN
    clear hN
    by_cases hlt : j < n1 ∧ j < 50000
    · obtain ⟨ba, off, t, rfl, hba, hx, ht64, c0w⟩ := A1.num hlt.1
      have c0 := cell_fr hF (fun h => h) c0w
      have hlt' : (j : Int) < (n1 : Int) := by omega
      have hlt5 : (j : Int) < 50000 := by omega
      have hFL := hide fun (w3 : World) (hf : Fr (fun _ => False) w w3) => cell_fr hf (fun h => h) c0w
      clear hx
      by_cases ht : 0 < t
      · --P
        obtain ⟨k, hk⟩ : ∃ k : Nat, 1 + j % 7 = k := ⟨_, rfl⟩
        have hk0 : k ≠ 0 := by omega
        have hk8 : k < 8 := by omega
        have hkt : 1 + (j : Int).tmod 7 = (k : Int) := by rw [← hk]; rfl
        have hkm : 1 + (j : Int) % 7 = (k : Int) := by omega
        have HB := hide (mbegin hM hk8 hk0 (hz k) (by omega) t)
        clear hkt hk
        go_wp2_with (go_at_call 12; refine (unhide HB).mono ?_; rintro e w3 ⟨x, hx, rfl, hM3, hF3⟩)
        have hMb := hM3.al (.cells #[.bool false, .bool false, .int .i64 0, .int .i64 0] 33)
        have hQb := QnAt.new w3
        have hOb := (hO.q hF3 (by decide) (by decide)).alo (.cells #[.bool false, .bool false, .int .i64 0, .int .i64 0] 33)
        have hFb := (hF.qu hF3 hGw).alloc (.cells #[.bool false, .bool false, .int .i64 0, .int .i64 0] 33)
        have hGx := hM3.is.lt
        have hwx : w.heap.size ≤ w3.heap.size := by omega
        obtain ⟨q1, hq1⟩ : ∃ q1, (q.born x t).set k ⟨1, some x, none⟩ = q1 := ⟨_, rfl⟩
        have L1 : Lin q1 R := by rw [← hq1]; exact L.beg hM.wf hx hk0 (hz k) t
        rw [hq1] at hM3 hMb
        have hv1 : q1.v x = t := by rw [← hq1]; simp [Qu.set, Qu.born]
        obtain ⟨q3, hrun⟩ := run_put L1 hM3.wf hk0 (show q1.th k = ⟨1, some x, none⟩ by rw [← hq1]; exact qset_th _ _ _) (fun i hi => by rw [← hq1, qset_ne _ _ hi]; exact hz i)
        rw [hv1] at hrun
        obtain ⟨Y, hY⟩ : ∃ Y : Qn, (⟨true, false, t, 0⟩ : Qn) = Y := ⟨_, rfl⟩
        rw [hY] at hrun
        have hRv : (R ++ [x]).map q3.v = R.map q.v ++ [t] := by
          rw [hrun.v, List.map_append]
          congr 1
          · apply List.map_congr_left
            intro y hy
            have hne : y ≠ x := fun e => hx (e ▸ L.mem y (List.mem_cons_of_mem _ hy))
            rw [← hq1]
            simp [Qu.set, Qu.born, hne]
          · simp [hv1]
        have hi3 : q3.ids.length ≤ j + 1 + 1 := by rw [hrun.ids, ← hq1]; show (q.ids ++ [x]).length ≤ _; simp; omega
        have hRl2 : (R ++ [x]).length = N + 1 := by simp [HN.out]
        have HRUN := hide hrun
        have HRV := hide hRv
        have HY := hide hY
        have HRL := hide hRl2
        have HI3 := hide hi3
        clear L1 L hrun hRv hv1 hx hq1 hY hRl2 hi3 hz hlc3

        generalize w3.alloc (.cells #[.bool false, .bool false, .int .i64 0, .int .i64 0] 33) = wb at *
        generalize w3.heap.size = bx at *
        clear hM3 hF3 hM hO hF c0
        obtain ⟨wo, hwo⟩ : ∃ wo, wo = wr := ⟨_, rfl⟩
        subst hwo
        go_loopw [9] (fun s wr => ∃ i : Nat, i ≤ 3 ∧ s = .int .i64 i ∧ Mp wr G (G + 1) (qit q1 k i) ∧ QnAt wr bx (if i = 3 then Y else Qn.none) ∧ OS wr (G + 2) 2 1 (.slice la N lc) N (rowV2 (R.map q.v)) ∧ Fr (fun _ => False) w wr) (fun s _ => 3 - (intOf s).toNat)
        case atStart => exact ⟨0, by omega, rfl, hMb, hQb, hOb, hFb⟩
        case round =>
          clear hMb hQb hOb hFb
          obtain ⟨i, hi, rfl, hMi, hQi, hOi, hFi⟩ := hrel
          have hbl := lt_of_blk hQi
          by_cases his : i < 3
          · rw [if_neg (by omega)] at hQi
            have HST := hide (run_step (unhide HRUN) (by omega) his hMi)
            obtain ⟨yy, hyy⟩ : ∃ yy, (if i + 1 = 3 then Y else Qn.none) = yy := ⟨_, rfl⟩
            rw [hyy] at HST
            have hi2 : (i : Int) < 3 := by omega
            have HY := hide hyy
            clear hyy
            go_wp2_with (go_at_call 14; refine (unhide HST).mono ?_; rintro e w4 ⟨rfl, hM4, hF4⟩; unfold qnV; dsimp only; have hQ4 := hQi.fr hF4 (nonq hQi (by decide) (by decide)); obtain ⟨⟨x0, x1, x2, x3⟩, z0, z1, z2, z3⟩ := hQ4.cs)
            have hQ5 := hQ4.set yy
            have hF5 := qn_fr w4 bx yy
            have hM5 := hM4.fr hF5 (fun k hk e => by subst e; exact nonq hQ4 (by decide) (by decide) hk)
            have hO5 := (hOi.q hF4 (by decide) (by decide)).fr hF5 (fun k hk e => by subst e; obtain ⟨_, cs, e⟩ := hk; have h := show _ = _ from hQ4; rw [e] at h; cases h)
            have hF6 := (hFi.qu hF4 hGw).trans hF5 (T := fun _ => False) (fun _ _ h => h) (fun a ha e => by omega)
            go_roundw
            case rel => exact ⟨i + 1, by omega, by go_num, hM5, by rw [HY.out]; exact hQ5, hO5, hF6⟩
            case measure => simp [intOf]; omega
          · obtain rfl : i = 3 := by omega
            rw [if_pos rfl] at hQi
            rw [(unhide HRUN).last] at hMi
            have hz' := (unhide HRUN).th k
            obtain rfl := unhide HY
            obtain ⟨⟨x0, x1, x2, x3⟩, z0, z1, z2, z3⟩ := QnAt.cs hQi
            have c0 := unhide hFL wr hFi
            have HO := hide hOi
            have hsz := hFi.size
            have hGz := hMi.is.lt
            clear hOi hQi
            go_wp2_with (first
              | (go_at_call 16; refine (busy_in hMi.is hk8 false (by rw [hz']; simp [Rq.zero])).mono ?_; rintro e w' ⟨rfl, rfl⟩)
              | (at_builtin; refine wpList_append_os _ rfl _ _ 42 rfl 2 (.int .i64 0) 1 8 Try.underlying42 Try.infoLong rfl (G + 2) _ N (rowV2 (R.map q.v)) rfl ((unhide HO).alo (.cells #[.int .i64 t] 2)) _ 1 [.int .i64 t] rfl (Src.ofSlice _ Try.underlying42 _ 1 1 _ rfl (cell_one_new _ _ _) (by simp [Value.oneCell'])) (by unfold maxLen; omega) (by omega) (by simp; omega) ?_; intro v' w5 hO5 hF5))
            refine ⟨⟨j + 1, by omega, by omega, by go_num, q3, R ++ [x], (hMi.al _).row hF5, (unhide HRUN).lin, (unhide HRUN).th, ?_, HI3.out, by rw [HRL.out]; omega, ?_⟩, by simp [intOf]; omega⟩
            · rw [HRL.out, HRV.out]
              simpa [rowV2] using hO5
            · exact (hFi.alloc (.cells #[.int .i64 t] 2)).trans hF5 (fun _ _ h => h) (fun a ha h => by have := h.1; omega)
      · --T
        have ht' : decide (0 < t) = false := decide_eq_false ht
        have HB := hide (mbegin0 hM (hz 0) t)
        go_wp2_with (go_at_call 12; refine (unhide HB).mono ?_; rintro e w3 ⟨rfl, hM3, hF3⟩)
        have hMb := hM3.al (.cells #[.bool false, .bool false, .int .i64 0, .int .i64 0] 33)
        have hQb := QnAt.new w3
        have hOb := (hO.q hF3 (by decide) (by decide)).alo (.cells #[.bool false, .bool false, .int .i64 0, .int .i64 0] 33)
        have hFb := (hF.qu hF3 hGw).alloc (.cells #[.bool false, .bool false, .int .i64 0, .int .i64 0] 33)
        have hGx := hM3.is.lt
        have hwx : w.heap.size ≤ w3.heap.size := by omega
        obtain ⟨q1, hq1⟩ : ∃ q1, q.set 0 ⟨1, none, none⟩ = q1 := ⟨_, rfl⟩
        have L1 : Lin q1 R := by rw [← hq1]; exact L.beg0
        rw [hq1] at hM3 hMb
        obtain ⟨q3, R', Y, hrun, hE⟩ := run_take L1 hM3.wf (show q1.th 0 = ⟨1, none, none⟩ by rw [← hq1]; exact qset_th _ _ _) (fun i hi => by rw [← hq1, qset_ne _ _ hi]; exact hz i)
        have hv1 : q1.v = q.v := by rw [← hq1]; rfl
        rw [hv1] at hE
        have hi3 : q3.ids.length ≤ j + 1 := by rw [hrun.ids, ← hq1]; exact hid
        have hRv : R'.map q3.v = R'.map q.v := by rw [hrun.v, hv1]
        have HRUN := hide hrun
        have HRV := hide hRv
        have HI3 := hide hi3
        have HE := hide hE
        clear L1 L hrun hRv hv1 hq1 hi3 hz hlc3 hE
        generalize w3.alloc (.cells #[.bool false, .bool false, .int .i64 0, .int .i64 0] 33) = wb at *
        generalize w3.heap.size = bx at *
        clear hM3 hF3 hM hO hF c0
        obtain ⟨wo, hwo⟩ : ∃ wo, wo = wr := ⟨_, rfl⟩
        subst hwo
        go_loopw [9] (fun s wr => ∃ i : Nat, i ≤ 2 ∧ s = .int .i64 i ∧ Mp wr G (G + 1) (qit q1 0 i) ∧ QnAt wr bx (if i = 2 then Y else Qn.none) ∧ OS wr (G + 2) 2 1 (.slice la N lc) N (rowV2 (R.map q.v)) ∧ Fr (fun _ => False) w wr) (fun s _ => 2 - (intOf s).toNat)
        case atStart => exact ⟨0, by omega, rfl, hMb, hQb, hOb, hFb⟩
        case round =>
          clear hMb hQb hOb hFb
          obtain ⟨i, hi, rfl, hMi, hQi, hOi, hFi⟩ := hrel
          have hbl := lt_of_blk hQi
          by_cases his : i < 2
          · rw [if_neg (by omega)] at hQi
            have HST := hide (run_step (unhide HRUN) (by omega) his hMi)
            obtain ⟨yy, hyy⟩ : ∃ yy, (if i + 1 = 2 then Y else Qn.none) = yy := ⟨_, rfl⟩
            rw [hyy] at HST
            have hi2 : (i : Int) < 2 := by omega
            have HY := hide hyy
            clear hyy
            go_wp2_with (go_at_call 14; refine (unhide HST).mono ?_; rintro e w4 ⟨rfl, hM4, hF4⟩; unfold qnV; dsimp only; have hQ4 := hQi.fr hF4 (nonq hQi (by decide) (by decide)); obtain ⟨⟨x0, x1, x2, x3⟩, z0, z1, z2, z3⟩ := hQ4.cs)
            have hQ5 := hQ4.set yy
            have hF5 := qn_fr w4 bx yy
            have hM5 := hM4.fr hF5 (fun k hk e => by subst e; exact nonq hQ4 (by decide) (by decide) hk)
            have hO5 := (hOi.q hF4 (by decide) (by decide)).fr hF5 (fun k hk e => by subst e; obtain ⟨_, cs, e⟩ := hk; have h := show _ = _ from hQ4; rw [e] at h; cases h)
            have hF6 := (hFi.qu hF4 hGw).trans hF5 (T := fun _ => False) (fun _ _ h => h) (fun a ha e => by omega)
            go_roundw
            case rel => exact ⟨i + 1, by omega, by go_num, hM5, by rw [HY.out]; exact hQ5, hO5, hF6⟩
            case measure => simp [intOf]; omega
          · obtain rfl : i = 2 := by omega
            rw [if_pos rfl] at hQi
            rw [(unhide HRUN).last] at hMi
            have hz' := (unhide HRUN).th 0
            obtain ⟨⟨x0, x1, x2, x3⟩, z0, z1, z2, z3⟩ := QnAt.cs hQi
            have c0 := unhide hFL wr hFi
            have hsz := hFi.size
            have hGz := hMi.is.lt
            rcases unhide HE with ⟨n, hRn, hYn⟩ | ⟨rfl, rfl, rfl⟩
            · subst hRn
              subst hYn
              obtain ⟨N1, hN1⟩ : ∃ N1, R'.length = N1 := ⟨_, rfl⟩
              obtain rfl : N = N1 + 1 := by rw [← HN.out, ← hN1]; simp
              have HN1 := hide hN1
              obtain ⟨al, cl, el, hlc1, hlc2, hlc3⟩ := hOi.cell
              cases el
              obtain ⟨gl, ol, rfl, hbl2, _, hvs⟩ := hlc3 (by omega)
              have hx0 := hvs 0 (.int .i64 (q.v n)) rfl
              rw [Nat.add_zero] at hx0
              obtain ⟨a8, c8, e8, hDr⟩ := hOi.drop 1 (by omega)
              simp at e8
              obtain ⟨rfl, rfl⟩ := e8
              have HDR := hide hDr
              generalize q.v n = vn at *
              have hN0 : ((N1 : Int) + 1 == 0) = false := by simp; omega
              clear hDr hvs hlc3 hN1 hOi hQi
              go_wp2_with (go_at_call 16; refine (busy_in (k := 0) hMi.is (by omega) false (by rw [hz']; simp [Rq.zero])).mono ?_; rintro e w' ⟨rfl, rfl⟩)
              go_quiet (fail)
              go_wp2
              have hfin : ∀ a' nq, (1 < lc → ∃ g off, (some (⟨gl, ol, none⟩ : Addr)) = some ⟨g, off, none⟩ ∧ a' = some ⟨g, off + 1 * 1, none⟩) → (lc ≤ 1 → a' = some ⟨gl, ol, none⟩) → (∃ j_1 : Nat, j_1 ≤ n1 ∧ j_1 ≤ 50000 ∧ Value.int IntKind.i64 ((j : Int) + 1) = Value.int IntKind.i64 (j_1 : Int) ∧ CaQ w G j_1 (.slice a' N1 (lc - 1)) (wr.drewN nq)) := fun a' nq ha1 ha2 => by
                have hq := HDR.out a' ha1 ha2
                have hq1 : OS wr (G + 2) 2 1 (.slice a' N1 (lc - 1)) N1 (rowV2 (R'.map q.v)) := by simpa [rowV2] using hq
                refine ⟨j + 1, by omega, by omega, by go_num, q3, R', hMi.same rfl, (unhide HRUN).lin, (unhide HRUN).th, ?_, by have := HI3.out; omega, by rw [HN1.out]; omega, hFi.drewN _⟩
                rw [HN1.out, HRV.out]
                exact hq1.same rfl
              refine ⟨?_, by simp [intOf]; omega⟩
              by_cases hl1 : lc = 1
              · rw [if_pos hl1]
                exact hfin _ _ (fun h => by omega) (fun _ => rfl)
              · rw [if_neg hl1]
                exact hfin _ _ (fun h => ⟨gl, ol, rfl, rfl⟩) (fun h => by omega)
            · obtain rfl : N = 0 := by rw [← HN.out]; rfl
              have HO := hide hOi
              clear hOi hQi
              go_wp2_with (go_at_call 16; refine (busy_in (k := 0) hMi.is (by omega) false (by rw [hz']; simp [Rq.zero])).mono ?_; rintro e w' ⟨rfl, rfl⟩)
              refine ⟨⟨j + 1, by omega, by omega, by go_num, q3, [], hMi, (unhide HRUN).lin, (unhide HRUN).th, ?_, by have := HI3.out; omega, by simp, hFi⟩, by simp [intOf]; omega⟩
              simpa using unhide HO
    · --END
      have hC := chn_all L hz
      have HI := hide (mitems hM hC (by rw [HN.out]; omega))
      have hOs : LS wr (G + 2) (.slice la N lc) (R.map q.v) := by unfold LS; rw [List.length_map, HN.out]; exact hO
      have HSL := hide hOs.sl
      have hll : (R.map q.v).length ≤ 9223372036854775806 := by rw [List.length_map, HN.out]; omega
      clear L hz hlc3 hC hOs
      by_cases hj1 : (j : Int) < (n1 : Int)
      · have hj2 : ¬ ((j : Int) < 50000) := by omega
        go_wp2_with (first
          | (go_at_call 18; refine (unhide HI).mono ?_; rintro e w4 ⟨v, rfl, hLv, hF4⟩)
          | (go_at_call 17; refine (same_true hLv.sl ((unhide HSL).fr hF4) hll).mono ?_; rintro e w5 ⟨rfl, hF5⟩))
        go_ret
        exact ⟨rfl, (hF.trans hF4 (fun _ _ h => h) (fun _ _ h => h)).trans hF5 (fun _ _ h => h) (fun _ _ h => h)⟩
      · go_wp2_with (first
          | (go_at_call 18; refine (unhide HI).mono ?_; rintro e w4 ⟨v, rfl, hLv, hF4⟩)
          | (go_at_call 17; refine (same_true hLv.sl ((unhide HSL).fr hF4) hll).mono ?_; rintro e w5 ⟨rfl, hF5⟩))
        go_ret
        exact ⟨rfl, (hF.trans hF4 (fun _ _ h => h) (fun _ _ h => h)).trans hF5 (fun _ _ h => h) (fun _ _ h => h)⟩

end Go.Proofs.Ytingpopcdihclab
