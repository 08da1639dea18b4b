/-
  MpscPlays: both queues answer alike.
-/
import Derived.Test.YtingpopcdihclabMrBoth
import Derived.LoopTactic
import Derived.BigQuiet
namespace Go.Proofs.Ytingpopcdihclab
open Go.RowKit
set_option linter.unusedVariables false
set_option maxRecDepth 8192

theorem Fr.rq {w0 w w' : World} {lo : Nat} (h : Fr (fun _ => False) w0 w) (hq : FrR lo w w') (hlo : w0.heap.size ≤ lo) : Fr (fun _ => False) w0 w' := h.trans hq (fun _ _ h => h) (fun i hi h => by have := h.1; omega)

theorem quiet_plus {P : Program} {f : FuncId} {args : Array Value} {w : World} {q n : Nat} {v : Value} (h : Calls P f args (w.drewN (q + n)) fun e w' => e = .returned v ∧ w.drewN (q + n) = w') :
    Calls P f args (w.drewN (q + n)) fun e w' => e = .returned v ∧ ∃ m, w' = w.drewN (q + m) :=
  h.mono fun e w' ⟨h1, h2⟩ => ⟨h1, n, h2.symm⟩

theorem quiet_same {P : Program} {f : FuncId} {args : Array Value} {w : World} {n : Nat} {v : Value}
    (h : Calls P f args (w.drewN n) fun e w' => e = .returned v ∧ w.drewN n = w') : Calls P f args (w.drewN n) fun e w'' => e = .returned v ∧ ∃ m, w'' = w.drewN m :=
  h.mono fun _ _ ⟨he, hm⟩ => ⟨he, n, hm.symm⟩

theorem Mp.drewN {w : World} {lo b : Nat} {q : Qu} (h : Mp w lo b q) (n : Nat) : Mp (w.drewN n) lo b q := h.same rfl
theorem MM.drewN {w : World} {lo b : Nat} {q : Qu} (h : MM w lo b q) (n : Nat) : MM (w.drewN n) lo b q := h.same rfl

theorem bo_new (g : Nat) : Bo (Qu.new g) [] := ⟨lin_new g, Nm.new g, by simp [Qu.new]⟩

/-- what the law reads of the document's queue -/
theorem MM.reads {w : World} {lo b : Nat} {q : Qu} (m : MM w lo b q) : ∃ h, w.cell? ⟨b, 4, none⟩ = some (.slice (some ⟨h, 0, none⟩) 8 8) ∧ b < w.heap.size ∧ h < w.heap.size ∧
    ∀ k : Nat, k < 8 → w.cell? ⟨h, k * 4, none⟩ = some (.bool (decide (0 < (q.th k).pc))) := by
  obtain ⟨h, gv, gn, cv, cn, m⟩ := m
  exact ⟨h, m.c4, m.ltb, m.lth, fun k hk => (m.ct hk).1⟩

theorem keep_al {w : World} {i : Nat} {o o' : Obj} (h : w.heap[i]? = some o) : (w.alloc o').heap[i]? = some o := ((Fr.refl (fun _ => False) w).alloc o').blk h (fun h => h)

set_option maxHeartbeats 8000000 in
theorem plays_calls {w : World} {a1 : Option Addr} {n1 k1 : Nat} {rows : List Mv} (A1 : MvA w.heap.size w a1 n1 rows) (hn1 : n1 * 24 ≤ 140737488351232) :
    Calls Try.prog 3 #[.slice a1 n1 k1] w fun e w' => e = .returned (.bool true) ∧ Fr (fun _ => False) w w' := by
  go_enter Try.func3, Try.ntmps3
  go_wp2_with (first
    | (go_at_call 9; refine (lives_calls _).mono ?_; rintro e w1 ⟨rfl, hF0⟩)
    | (go_at_call 10; refine (mnew _).mono ?_; rintro e w2 ⟨rfl, hD, hF1⟩)
    | (go_at_call 11; refine (mm_new _).mono ?_; rintro e w3 ⟨b2, rfl, hM, hF2⟩; replace hD := hD.up hF2))
  obtain ⟨G, hG⟩ : ∃ G, w1.heap.size = G := ⟨_, rfl⟩
  rw [hG] at hD
  simp only [hG]
  have hGw : w.heap.size ≤ G := by rw [← hG]; exact hF0.size
  have hsz := (hF0.trans hF1 (T := fun _ => False) (fun _ _ h => h) (fun _ _ h => h)).size
  obtain ⟨L2, hL2⟩ : ∃ L2, w2.heap.size = L2 := ⟨_, rfl⟩
  have hFr := (hF0.trans hF1 (T := fun _ => False) (fun _ _ h => h) (fun _ _ h => h)).trans hF2 (T := fun _ => False) (fun _ _ h => h) (fun _ _ h => h)
  replace hM := hM G
  rw [hL2] at hM hsz
  clear hG hL2 hF0 hF1 hF2
  go_loopw [5] (fun i wr => ∃ (j : Nat) (q : Qu) (R : List Nat), j ≤ n1 ∧ i = .int .i64 j ∧ Mp wr G (G + 1) q ∧ MM wr L2 b2 q ∧ Bo q R ∧ Fr (fun _ => False) w wr) (fun i _ => n1 - (intOf i).toNat)
  case atStart => exact ⟨0, Qu.new G, [], by omega, rfl, hD, hM, bo_new G, hFr⟩
  case round =>
    clear hD hFr hM
    obtain ⟨j, q, R, hj, rfl, hD, hM, B, hF⟩ := hrel
    by_cases hlt : j < n1
    · obtain ⟨ba, off, ⟨bg, n, v⟩, vs, rfl, hba, hx, hc, ⟨rfl, _, _⟩⟩ := (A1.fr hF (fun _ h => h.elim)).at hlt
      have c0 : wr.cell? ⟨ba, off + j * 3, none⟩ = some (.bool bg) := by simpa using hc 0 _ rfl
      have c1 : wr.cell? ⟨ba, off + j * 3 + 1, none⟩ = some (.int .i64 n) := by simpa using hc 1 _ rfl
      have c2 : wr.cell? ⟨ba, off + j * 3 + 2, none⟩ = some (.int .i64 v) := by simpa using hc 2 _ rfl
      have hlt' : (j : Int) < (n1 : Int) := by omega
      clear hx hc
      have HO := hide (blk_new wr (.cells #[.bool bg, .int .i64 n, .int .i64 v] 29))
      have HX1 := hide (show (wr.alloc (.cells #[.bool bg, .int .i64 n, .int .i64 v] 29)).cell? ⟨wr.heap.size, 1, none⟩ = some (.int .i64 n) from (cell_at (blk_new wr _) 1).trans rfl)
      cases bg
      · --STEP
        obtain ⟨er, ⟨yo, yt, yv, ye⟩, q', R', B', hA, hB⟩ := step_both B hD.wf n
        have HA := hide hA
        have HB := hide hB
        obtain ⟨bz, HC, HZ⟩ := busy_both (q := q') n
        clear hA hB
        go_wp2_with (first
          | (go_at_call 14; refine (unhide HA _ _ _ (hD.al _)).mono ?_; rintro e w4 ⟨rfl, hD4, hF4⟩; unfold qnV; dsimp only; have hO4 := hF4.blk (unhide HO) (nonq (unhide HO) (by decide) (by decide)); have x1 := (cell_at hO4 1).trans rfl; have hM4 := (hM.al (.cells #[.bool false, .int .i64 n, .int .i64 v] 29)).q hF4; have hl4 := lt_of_blk hO4; have HO4 := hide hO4; clear hO4)
          | (go_at_call 15; go_loud (refine (unhide HB _ _ _ (hM4.al _)).mono ?_; rintro e w5 ⟨rfl, hM5, hF5⟩; unfold qnV; dsimp only; have hD5 := (hD4.al (.cells #[.bool yo, .bool yt, .int .i64 yv, .int .i64 ye] 33)).r hF5; have hO5 := hF5.blk (keep_al (unhide HO4)) (nonr (keep_al (unhide HO4)) (by decide) (by decide) (by decide)); have hP5 := hF5.blk (blk_new w4 (.cells #[.bool yo, .bool yt, .int .i64 yv, .int .i64 ye] 33)) (nonr (blk_new w4 _) (by decide) (by decide) (by decide)); have y1 := (cell_at hO5 1).trans rfl; have e0 := (cell_at hP5 0).trans rfl; have e1 := (cell_at hP5 1).trans rfl; have e2 := (cell_at hP5 2).trans rfl; have e3 := (cell_at hP5 3).trans rfl; have hl5 := lt_of_blk hO5; have hl6 := lt_of_blk hP5)))
        obtain ⟨h, m4, hlb, hlh, hth⟩ := hM5.reads
        rcases HC with ⟨hn, rfl⟩ | ⟨hn, hn', rfl⟩ | ⟨hn, hn', k, hk, rfl, hbz⟩
        · have hd1 : decide (0 ≤ n) = false := decide_eq_false (by omega)
          go_quiet ((go_at_call 16; first | exact quiet_same (unhide HZ _ _ _ ((hD5.al _).drewN _)) | exact quiet_plus (unhide HZ _ _ _ ((hD5.al _).drewN _))))
          go_wp2
          go_roundw
          case rel => exact ⟨j + 1, q', R', by omega, by go_num, (hD5.al _).same rfl, (hM5.al _).same rfl, B', (((((hF.alloc _).qu hF4 hGw).alloc _).rq hF5 hsz).alloc _).drewN _⟩
          case measure => simp [intOf]; omega
        · have hd1 : decide (0 ≤ n) = true := decide_eq_true hn
          have hd2 : decide (n < 8) = false := decide_eq_false (by omega)
          go_quiet ((go_at_call 16; first | exact quiet_same (unhide HZ _ _ _ ((hD5.al _).drewN _)) | exact quiet_plus (unhide HZ _ _ _ ((hD5.al _).drewN _))))
          go_wp2
          go_roundw
          case rel => exact ⟨j + 1, q', R', by omega, by go_num, (hD5.al _).same rfl, (hM5.al _).same rfl, B', (((((hF.alloc _).qu hF4 hGw).alloc _).rq hF5 hsz).alloc _).drewN _⟩
          case measure => simp [intOf]; omega
        · have t0 := hth k hk
          rw [← hbz] at t0
          have hd1 : decide (0 ≤ (k : Int)) = true := decide_eq_true hn
          have hd2 : decide ((k : Int) < 8) = true := decide_eq_true hn'
          go_quiet ((go_at_call 16; first | exact quiet_same (unhide HZ _ _ _ ((hD5.al _).drewN _)) | exact quiet_plus (unhide HZ _ _ _ ((hD5.al _).drewN _))))
          go_wp2
          go_roundw
          case rel => exact ⟨j + 1, q', R', by omega, by go_num, (hD5.al _).same rfl, (hM5.al _).same rfl, B', (((((hF.alloc _).qu hF4 hGw).alloc _).rq hF5 hsz).alloc _).drewN _⟩
          case measure => simp [intOf]; omega
      · --BEGIN
        obtain ⟨er, hA⟩ := begin_both B n v
        have HA := hide hA
        have HX2 := hide (show (wr.alloc (.cells #[.bool true, .int .i64 n, .int .i64 v] 29)).cell? ⟨wr.heap.size, 2, none⟩ = some (.int .i64 v) from (cell_at (blk_new wr _) 2).trans rfl)
        clear hA
        go_wp2_with fail
        have hO := blk_new wr (.cells #[.bool true, .int .i64 n, .int .i64 v] 29)
        have hDq := hD.al (.cells #[.bool true, .int .i64 n, .int .i64 v] 29)
        have hMq := hM.al (.cells #[.bool true, .int .i64 n, .int .i64 v] 29)
        have hFq := hF.alloc (.cells #[.bool true, .int .i64 n, .int .i64 v] 29)
        clear HX1 HX2 HO hD hM hF c0 c1 c2
        generalize wr.alloc (.cells #[.bool true, .int .i64 n, .int .i64 v] 29) = wq at *
        generalize wr.heap.size = bx at *
        have o1 := cell_at hO 1
        have o2 := cell_at hO 2
        simp at o1 o2
        go_region_held3 (fun w' => w'.cell? ⟨bx, 1, none⟩ = some (.int .i64 n) ∧ w'.cell? ⟨bx, 2, none⟩ = some (.int .i64 v)) ((first | go_keep | (refine ⟨?_, ?_⟩ <;> assumption)))
          ((first
            | (go_at_call 12; refine (unhide HA _ _ _ (by first | exact hDq | exact hDq.same rfl)).mono ?_; rintro e w4 ⟨q', rfl, hD4, hF4, B', HB⟩; have hO4 := hF4.blk (show _ = _ from hO) (nonq (show _ = _ from hO) (by decide) (by decide)); have hM4 := (hMq.same (w' := wq.drew) rfl).q hF4; have p1 := cell_at hO4 1; have p2 := cell_at hO4 2; simp at p1 p2)
            | (go_at_call 13; refine (unhide HB _ _ _ (by exact hM4)).mono ?_; rintro e w5 ⟨rfl, hM5, hF5⟩; have hD5 := hD4.r hF5; have hO5 := hF5.blk (show _ = _ from hO4) (nonr (show _ = _ from hO4) (by decide) (by decide) (by decide)); have p4 := cell_at hO5 1; have p5 := cell_at hO5 2; simp at p4 p5)))
        all_goals
          have hFn := ((hFq.drew).qu hF4 hGw).rq hF5 hsz
          obtain ⟨bz, HC, HZ⟩ := busy_both (q := q') n
          clear hFq hF4 hF5 hD4 hM4 hDq hMq o1 o2 p1 p2 hO hO4
          go_wp2_with fail
          obtain ⟨h, m4, hlb, hlh, hth⟩ := hM5.reads
          have hl5 := lt_of_blk hO5
          rcases HC with ⟨hn, rfl⟩ | ⟨hn, hn', rfl⟩ | ⟨hn, hn', k, hk, rfl, hbz⟩
          · have hd1 : decide (0 ≤ n) = false := decide_eq_false (by omega)
            go_quiet ((go_at_call 16; first | exact quiet_same (unhide HZ _ _ _ (hD5.drewN _)) | exact quiet_plus (unhide HZ _ _ _ (hD5.drewN _))))
            go_wp2
            go_roundw
            case rel => exact ⟨j + 1, q', R, by omega, by go_num, hD5.same rfl, hM5.same rfl, B', hFn.drewN _⟩
            case measure => simp [intOf]; omega
          · have hd1 : decide (0 ≤ n) = true := decide_eq_true hn
            have hd2 : decide (n < 8) = false := decide_eq_false (by omega)
            go_quiet ((go_at_call 16; first | exact quiet_same (unhide HZ _ _ _ (hD5.drewN _)) | exact quiet_plus (unhide HZ _ _ _ (hD5.drewN _))))
            go_wp2
            go_roundw
            case rel => exact ⟨j + 1, q', R, by omega, by go_num, hD5.same rfl, hM5.same rfl, B', hFn.drewN _⟩
            case measure => simp [intOf]; omega
          · have t0 := hth k hk
            rw [← hbz] at t0
            have hd1 : decide (0 ≤ (k : Int)) = true := decide_eq_true hn
            have hd2 : decide ((k : Int) < 8) = true := decide_eq_true hn'
            go_quiet ((go_at_call 16; first | exact quiet_same (unhide HZ _ _ _ (hD5.drewN _)) | exact quiet_plus (unhide HZ _ _ _ (hD5.drewN _))))
            go_wp2
            go_roundw
            case rel => exact ⟨j + 1, q', R, by omega, by go_num, hD5.same rfl, hM5.same rfl, B', hFn.drewN _⟩
            case measure => simp [intOf]; omega
    · --END
      obtain rfl : j = n1 := by omega
      obtain ⟨V, hV, hI, hJ⟩ := items_both B hD.wf
      have HI := hide hI
      have HJ := hide hJ
      clear hI hJ
      go_wp2_with (first
        | (go_at_call 18; refine (unhide HI _ _ _ hD).mono ?_; rintro e w4 ⟨l1, rfl, hL1, hF1⟩; have hM1 := hM.fr hF1 (fun _ _ h => h))
        | (go_at_call 19; refine (unhide HJ _ _ _ hM1).mono ?_; rintro e w5 ⟨l2, rfl, hL2, hF2⟩)
        | (go_at_call 17; refine (same_true (hL1.sl.fr hF2) hL2.sl (by omega)).mono ?_; rintro e w6 ⟨rfl, hF3⟩))
      go_ret
      exact ⟨rfl, ((hF.trans hF1 (fun _ _ h => h) (fun _ _ h => h)).trans hF2 (fun _ _ h => h) (fun _ _ h => h)).trans hF3 (fun _ _ h => h) (fun _ _ h => h)⟩

end Go.Proofs.Ytingpopcdihclab
