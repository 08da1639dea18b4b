/-
  The document's pop, walked way by way.
-/
import Derived.Test.YtingpopcdihclaaDrEnd
namespace Go.Proofs.Ytingpopcdihclaa
open Go.RowKit
set_option linter.unusedVariables false
set_option maxRecDepth 8192

set_option maxHeartbeats 2000000 in
theorem q1 {w : World} {b g h S : Nat} {d : Mq} (m : IsM w b g h S d) (on : Bool) (op v t bb : Int) (won : Bool) (hb : -1152921504606846976 ≤ d.bot ∧ d.bot ≤ 1152921504606846976) :
    Calls Try.prog 29 #[.pointer (some ⟨b, 0, none⟩), .agg #[.bool on, .int .i64 op, .int .i64 1, .int .i64 v, .int .i64 t, .int .i64 bb, .bool won]] w
      (AM w b g h S (d.set 0 ⟨on, op, 1, v, t, (d.bot - 1), won⟩) Dn.none) := by
  have c0 := m.c0
  have c1 := m.c1
  have c2 := m.c2
  have c3 := m.c3
  have f0 := m.fb 0
  have f1 := m.fb 1
  obtain ⟨t0, t1, t2, t3, t4, t5, t6⟩ := m.ct (k := 0) (o := 0) (by omega) rfl
  simp only [Nat.zero_add] at t1 t2 t3 t4 t5 t6
  have g0 := m.fh 0
  have g1 := m.fh 1
  have g2 := m.fh 2
  have g3 := m.fh 3
  have g4 := m.fh 4
  have g5 := m.fh 5
  have g6 := m.fh 6
  have hlth := m.lth
  have hltb := m.ltb
  have hltg := m.ltg
  have hbg := m.bg
  have hbh := m.bh
  have hgh := m.gh
  have hgb : ¬ g = b := fun e => hbg e.symm
  have hhb : ¬ h = b := fun e => hbh e.symm
  have hhg : ¬ h = g := fun e => hgh e.symm
  obtain ⟨hb0, hb1⟩ := hb
  go_enter Try.func29, Try.ntmps29
  go_wp2
  go_region_with (fail)
  all_goals go_wp2
  all_goals
    have hW : ((((((((w).setCell ⟨h, 0, none⟩ (.bool on)).setCell ⟨h, 1, none⟩ (.int .i64 op)).setCell ⟨h, 2, none⟩ (.int .i64 1)).setCell ⟨h, 3, none⟩ (.int .i64 v)).setCell ⟨h, 4, none⟩ (.int .i64 t)).setCell ⟨h, 5, none⟩ (.int .i64 (d.bot - 1))).setCell ⟨h, 6, none⟩ (.bool won)) = mset7 (w) h (0) ⟨on, op, 1, v, t, (d.bot - 1), won⟩ := rfl
    have hE := end_set (w := w) (W := mset7 (w) h (0) ⟨on, op, 1, v, t, (d.bot - 1), won⟩) (.cells #[.bool on, .int .i64 op, .int .i64 1, .int .i64 v, .int .i64 t, .int .i64 (d.bot - 1), .bool won] 45) (by rw [mset7_size]) ((m).sth (k := 0) (by omega) rfl ⟨on, op, 1, v, t, (d.bot - 1), won⟩) (((Fr.refl (fun k => k = b ∨ k = g ∨ k = h) w)).trans (mset7_fr (w) h (0) ⟨on, op, 1, v, t, (d.bot - 1), won⟩) (fun _ _ h => h) (fun _ _ h => .inr (.inr h)))
    rw [hW]
    exact bodyPost_ret (results_dm rfl _ _ (w.heap.size + 1) Dn.none rfl hE.1) rfl ⟨rfl, hE.2.1, hE.2.2⟩

set_option maxHeartbeats 2000000 in
theorem q2 {w : World} {b g h S : Nat} {d : Mq} (m : IsM w b g h S d) (on : Bool) (op v t bb : Int) (won : Bool) :
    Calls Try.prog 29 #[.pointer (some ⟨b, 0, none⟩), .agg #[.bool on, .int .i64 op, .int .i64 2, .int .i64 v, .int .i64 t, .int .i64 bb, .bool won]] w
      (AM w b g h S ((d.wbot bb).set 0 ⟨on, op, 2, v, t, bb, won⟩) Dn.none) := by
  have c0 := m.c0
  have c1 := m.c1
  have c2 := m.c2
  have c3 := m.c3
  have f0 := m.fb 0
  have f1 := m.fb 1
  obtain ⟨t0, t1, t2, t3, t4, t5, t6⟩ := m.ct (k := 0) (o := 0) (by omega) rfl
  simp only [Nat.zero_add] at t1 t2 t3 t4 t5 t6
  have g0 := m.fh 0
  have g1 := m.fh 1
  have g2 := m.fh 2
  have g3 := m.fh 3
  have g4 := m.fh 4
  have g5 := m.fh 5
  have g6 := m.fh 6
  have hlth := m.lth
  have hltb := m.ltb
  have hltg := m.ltg
  have hbg := m.bg
  have hbh := m.bh
  have hgh := m.gh
  have hgb : ¬ g = b := fun e => hbg e.symm
  have hhb : ¬ h = b := fun e => hbh e.symm
  have hhg : ¬ h = g := fun e => hgh e.symm
  go_enter Try.func29, Try.ntmps29
  go_wp2
  go_region_with (fail)
  all_goals go_wp2
  all_goals
    have hW : ((((((((w.setCell ⟨b, 1, none⟩ (.int .i64 bb)).setCell ⟨h, 0, none⟩ (.bool on)).setCell ⟨h, 1, none⟩ (.int .i64 op)).setCell ⟨h, 2, none⟩ (.int .i64 2)).setCell ⟨h, 3, none⟩ (.int .i64 v)).setCell ⟨h, 4, none⟩ (.int .i64 t)).setCell ⟨h, 5, none⟩ (.int .i64 bb)).setCell ⟨h, 6, none⟩ (.bool won)) = mset7 (w.setCell ⟨b, 1, none⟩ (.int .i64 bb)) h (0) ⟨on, op, 2, v, t, bb, won⟩ := rfl
    have hE := end_set (w := w) (W := mset7 (w.setCell ⟨b, 1, none⟩ (.int .i64 bb)) h (0) ⟨on, op, 2, v, t, bb, won⟩) (.cells #[.bool on, .int .i64 op, .int .i64 2, .int .i64 v, .int .i64 t, .int .i64 bb, .bool won] 45) (by rw [mset7_size]; simp) ((m.sbot bb).sth (k := 0) (by omega) rfl ⟨on, op, 2, v, t, bb, won⟩) (((Fr.refl (fun k => k = b ∨ k = g ∨ k = h) w).setAt b 1 _ (.inr (.inl rfl))).trans (mset7_fr (w.setCell ⟨b, 1, none⟩ (.int .i64 bb)) h (0) ⟨on, op, 2, v, t, bb, won⟩) (fun _ _ h => h) (fun _ _ h => .inr (.inr h)))
    rw [hW]
    exact bodyPost_ret (results_dm rfl _ _ (w.heap.size + 1) Dn.none rfl hE.1) rfl ⟨rfl, hE.2.1, hE.2.2⟩

set_option maxHeartbeats 2000000 in
theorem q3 {w : World} {b g h S : Nat} {d : Mq} (m : IsM w b g h S d) (on : Bool) (op v t bb : Int) (won : Bool) :
    Calls Try.prog 29 #[.pointer (some ⟨b, 0, none⟩), .agg #[.bool on, .int .i64 op, .int .i64 3, .int .i64 v, .int .i64 t, .int .i64 bb, .bool won]] w
      (AM w b g h S (d.set 0 ⟨on, op, 3, v, d.top, bb, won⟩) Dn.none) := by
  have c0 := m.c0
  have c1 := m.c1
  have c2 := m.c2
  have c3 := m.c3
  have f0 := m.fb 0
  have f1 := m.fb 1
  obtain ⟨t0, t1, t2, t3, t4, t5, t6⟩ := m.ct (k := 0) (o := 0) (by omega) rfl
  simp only [Nat.zero_add] at t1 t2 t3 t4 t5 t6
  have g0 := m.fh 0
  have g1 := m.fh 1
  have g2 := m.fh 2
  have g3 := m.fh 3
  have g4 := m.fh 4
  have g5 := m.fh 5
  have g6 := m.fh 6
  have hlth := m.lth
  have hltb := m.ltb
  have hltg := m.ltg
  have hbg := m.bg
  have hbh := m.bh
  have hgh := m.gh
  have hgb : ¬ g = b := fun e => hbg e.symm
  have hhb : ¬ h = b := fun e => hbh e.symm
  have hhg : ¬ h = g := fun e => hgh e.symm
  go_enter Try.func29, Try.ntmps29
  go_wp2
  go_region_with (fail)
  all_goals go_wp2
  all_goals
    have hW : ((((((((w).setCell ⟨h, 0, none⟩ (.bool on)).setCell ⟨h, 1, none⟩ (.int .i64 op)).setCell ⟨h, 2, none⟩ (.int .i64 3)).setCell ⟨h, 3, none⟩ (.int .i64 v)).setCell ⟨h, 4, none⟩ (.int .i64 d.top)).setCell ⟨h, 5, none⟩ (.int .i64 bb)).setCell ⟨h, 6, none⟩ (.bool won)) = mset7 (w) h (0) ⟨on, op, 3, v, d.top, bb, won⟩ := rfl
    have hE := end_set (w := w) (W := mset7 (w) h (0) ⟨on, op, 3, v, d.top, bb, won⟩) (.cells #[.bool on, .int .i64 op, .int .i64 3, .int .i64 v, .int .i64 d.top, .int .i64 bb, .bool won] 45) (by rw [mset7_size]) ((m).sth (k := 0) (by omega) rfl ⟨on, op, 3, v, d.top, bb, won⟩) (((Fr.refl (fun k => k = b ∨ k = g ∨ k = h) w)).trans (mset7_fr (w) h (0) ⟨on, op, 3, v, d.top, bb, won⟩) (fun _ _ h => h) (fun _ _ h => .inr (.inr h)))
    rw [hW]
    exact bodyPost_ret (results_dm rfl _ _ (w.heap.size + 1) Dn.none rfl hE.1) rfl ⟨rfl, hE.2.1, hE.2.2⟩

set_option maxHeartbeats 2000000 in
theorem q4e {w : World} {b g h S : Nat} {d : Mq} (m : IsM w b g h S d) (on : Bool) (op v t bb : Int) (won : Bool) (HOP : Hid ((d.th 0).op = op)) (hb : -1152921504606846976 ≤ bb ∧ bb ≤ 1152921504606846976) (hI : bb < t) :
    Calls Try.prog 29 #[.pointer (some ⟨b, 0, none⟩), .agg #[.bool on, .int .i64 op, .int .i64 4, .int .i64 v, .int .i64 t, .int .i64 bb, .bool won]] w
      (AM w b g h S ((d.wbot (bb + 1)).set 0 Mt.zero) (⟨true, op, 0, 8⟩)) := by
  have c0 := m.c0
  have c1 := m.c1
  have c2 := m.c2
  have c3 := m.c3
  have f0 := m.fb 0
  have f1 := m.fb 1
  obtain ⟨t0, t1, t2, t3, t4, t5, t6⟩ := m.ct (k := 0) (o := 0) (by omega) rfl
  simp only [Nat.zero_add] at t1 t2 t3 t4 t5 t6
  have g0 := m.fh 0
  have g1 := m.fh 1
  have g2 := m.fh 2
  have g3 := m.fh 3
  have g4 := m.fh 4
  have g5 := m.fh 5
  have g6 := m.fh 6
  have hlth := m.lth
  have hltb := m.ltb
  have hltg := m.ltg
  have hbg := m.bg
  have hbh := m.bh
  have hgh := m.gh
  have hgb : ¬ g = b := fun e => hbg e.symm
  have hhb : ¬ h = b := fun e => hbh e.symm
  have hhg : ¬ h = g := fun e => hgh e.symm
  obtain ⟨hb0, hb1⟩ := hb
  go_enter Try.func29, Try.ntmps29
  go_wp2_with (go_at_call 36; refine (mover_calls (((m.sbot (bb + 1)).al _).al _) (k := 0) (by omega) op 0 8 HOP).mono ?_; rintro e w1 ⟨rfl, hD, hF⟩; have hq := DmAt.fr (b := w.heap.size + 1) (x := Dn.none) (DmAt.new2 (W := (w.setCell ⟨b, 1, none⟩ (.int .i64 (bb + 1))).alloc (.cells #[.bool on, .int .i64 op, .int .i64 4, .int .i64 v, .int .i64 t, .int .i64 bb, .bool won] 45)) (by simp)) hF (show ¬ w.heap.size + 1 = h by omega); obtain ⟨⟨q0, q1, q2, q3⟩, z0, z1, z2, z3⟩ := hq.cs; have hlt1 := hD.lth; have hltR := lt_of_blk hq; have hsz1 := hF.size; have HE := hide (end_over hltb hltg hlth hD (((((Fr.refl (fun k => k = b ∨ k = g ∨ k = h) w).setAt b 1 _ (.inr (.inl rfl))).alloc _).alloc _)) hF hq ⟨true, op, 0, 8⟩ (.cells #[.bool true, .int .i64 op, .int .i64 0, .int .i64 8] 41)))
  obtain ⟨hN, hX, hY⟩ := HE.out
  exact bodyPost_ret (results_dm rfl _ _ (w.heap.size + 1) ⟨true, op, 0, 8⟩ rfl hN) rfl ⟨rfl, hX, hY⟩

set_option maxHeartbeats 2000000 in
theorem q5y {w : World} {b g h S : Nat} {d : Mq} (m : IsM w b g h S d) (on : Bool) (op v t bb : Int) (won : Bool) (ht : -1152921504606846976 ≤ t ∧ t ≤ 1152921504606846976) (hI : d.top = t) :
    Calls Try.prog 29 #[.pointer (some ⟨b, 0, none⟩), .agg #[.bool on, .int .i64 op, .int .i64 5, .int .i64 v, .int .i64 t, .int .i64 bb, .bool won]] w
      (AM w b g h S ((d.wtop (t + 1)).set 0 ⟨on, op, 5, v, t, bb, true⟩) Dn.none) := by
  have c0 := m.c0
  have c1 := m.c1
  have c2 := m.c2
  have c3 := m.c3
  have f0 := m.fb 0
  have f1 := m.fb 1
  obtain ⟨t0, t1, t2, t3, t4, t5, t6⟩ := m.ct (k := 0) (o := 0) (by omega) rfl
  simp only [Nat.zero_add] at t1 t2 t3 t4 t5 t6
  have g0 := m.fh 0
  have g1 := m.fh 1
  have g2 := m.fh 2
  have g3 := m.fh 3
  have g4 := m.fh 4
  have g5 := m.fh 5
  have g6 := m.fh 6
  have hlth := m.lth
  have hltb := m.ltb
  have hltg := m.ltg
  have hbg := m.bg
  have hbh := m.bh
  have hgh := m.gh
  have hgb : ¬ g = b := fun e => hbg e.symm
  have hhb : ¬ h = b := fun e => hbh e.symm
  have hhg : ¬ h = g := fun e => hgh e.symm
  obtain ⟨ht0, ht1⟩ := ht
  rw [hI] at c0
  clear hI
  go_enter Try.func29, Try.ntmps29
  go_wp2
  go_region_with (fail)
  all_goals go_wp2
  all_goals go_region_with (fail)
  all_goals go_wp2
  all_goals
    have hW : ((((((((w.setCell ⟨b, 0, none⟩ (.int .i64 (t + 1))).setCell ⟨h, 0, none⟩ (.bool on)).setCell ⟨h, 1, none⟩ (.int .i64 op)).setCell ⟨h, 2, none⟩ (.int .i64 5)).setCell ⟨h, 3, none⟩ (.int .i64 v)).setCell ⟨h, 4, none⟩ (.int .i64 t)).setCell ⟨h, 5, none⟩ (.int .i64 bb)).setCell ⟨h, 6, none⟩ (.bool true)) = mset7 (w.setCell ⟨b, 0, none⟩ (.int .i64 (t + 1))) h (0) ⟨on, op, 5, v, t, bb, true⟩ := rfl
    have hE := end_set3 (w := w) (W := mset7 (w.setCell ⟨b, 0, none⟩ (.int .i64 (t + 1))) h (0) ⟨on, op, 5, v, t, bb, true⟩) (.cells #[.bool on, .int .i64 op, .int .i64 5, .int .i64 v, .int .i64 t, .int .i64 bb, .bool true] 45) (by rw [mset7_size]; simp) ((m.stop (t + 1)).sth (k := 0) (by omega) rfl ⟨on, op, 5, v, t, bb, true⟩) (((Fr.refl (fun k => k = b ∨ k = g ∨ k = h) w).setAt b 0 _ (.inr (.inl rfl))).trans (mset7_fr (w.setCell ⟨b, 0, none⟩ (.int .i64 (t + 1))) h (0) ⟨on, op, 5, v, t, bb, true⟩) (fun _ _ h => h) (fun _ _ h => .inr (.inr h)))
    rw [hW]
    exact bodyPost_ret (results_dm rfl _ _ (w.heap.size + 1) Dn.none rfl hE.1) rfl ⟨rfl, hE.2.1, hE.2.2⟩

set_option maxHeartbeats 2000000 in
theorem q5n {w : World} {b g h S : Nat} {d : Mq} (m : IsM w b g h S d) (on : Bool) (op v t bb : Int) (won : Bool) (hI : ¬ d.top = t) :
    Calls Try.prog 29 #[.pointer (some ⟨b, 0, none⟩), .agg #[.bool on, .int .i64 op, .int .i64 5, .int .i64 v, .int .i64 t, .int .i64 bb, .bool won]] w
      (AM w b g h S (d.set 0 ⟨on, op, 5, v, t, bb, false⟩) Dn.none) := by
  have c0 := m.c0
  have c1 := m.c1
  have c2 := m.c2
  have c3 := m.c3
  have f0 := m.fb 0
  have f1 := m.fb 1
  obtain ⟨t0, t1, t2, t3, t4, t5, t6⟩ := m.ct (k := 0) (o := 0) (by omega) rfl
  simp only [Nat.zero_add] at t1 t2 t3 t4 t5 t6
  have g0 := m.fh 0
  have g1 := m.fh 1
  have g2 := m.fh 2
  have g3 := m.fh 3
  have g4 := m.fh 4
  have g5 := m.fh 5
  have g6 := m.fh 6
  have hlth := m.lth
  have hltb := m.ltb
  have hltg := m.ltg
  have hbg := m.bg
  have hbh := m.bh
  have hgh := m.gh
  have hgb : ¬ g = b := fun e => hbg e.symm
  have hhb : ¬ h = b := fun e => hbh e.symm
  have hhg : ¬ h = g := fun e => hgh e.symm
  have hne : (d.top == t) = false := by simpa using hI
  clear hI
  go_enter Try.func29, Try.ntmps29
  go_wp2
  go_region_with (fail)
  all_goals go_wp2
  all_goals go_region_with (fail)
  all_goals go_wp2
  all_goals
    have hW : ((((((((w).setCell ⟨h, 0, none⟩ (.bool on)).setCell ⟨h, 1, none⟩ (.int .i64 op)).setCell ⟨h, 2, none⟩ (.int .i64 5)).setCell ⟨h, 3, none⟩ (.int .i64 v)).setCell ⟨h, 4, none⟩ (.int .i64 t)).setCell ⟨h, 5, none⟩ (.int .i64 bb)).setCell ⟨h, 6, none⟩ (.bool false)) = mset7 (w) h (0) ⟨on, op, 5, v, t, bb, false⟩ := rfl
    have hE := end_set3 (w := w) (W := mset7 (w) h (0) ⟨on, op, 5, v, t, bb, false⟩) (.cells #[.bool on, .int .i64 op, .int .i64 5, .int .i64 v, .int .i64 t, .int .i64 bb, .bool false] 45) (by rw [mset7_size]) ((m).sth (k := 0) (by omega) rfl ⟨on, op, 5, v, t, bb, false⟩) (((Fr.refl (fun k => k = b ∨ k = g ∨ k = h) w)).trans (mset7_fr (w) h (0) ⟨on, op, 5, v, t, bb, false⟩) (fun _ _ h => h) (fun _ _ h => .inr (.inr h)))
    rw [hW]
    exact bodyPost_ret (results_dm rfl _ _ (w.heap.size + 1) Dn.none rfl hE.1) rfl ⟨rfl, hE.2.1, hE.2.2⟩

set_option maxHeartbeats 2000000 in
theorem q6y {w : World} {b g h S : Nat} {d : Mq} (m : IsM w b g h S d) (on : Bool) (op v t bb : Int) (won : Bool) (HOP : Hid ((d.th 0).op = op)) (hb : -1152921504606846976 ≤ bb ∧ bb ≤ 1152921504606846976) (hw : won = true) :
    Calls Try.prog 29 #[.pointer (some ⟨b, 0, none⟩), .agg #[.bool on, .int .i64 op, .int .i64 6, .int .i64 v, .int .i64 t, .int .i64 bb, .bool won]] w
      (AM w b g h S ((d.wbot (bb + 1)).set 0 Mt.zero) (⟨true, op, v, 0⟩)) := by
  have c0 := m.c0
  have c1 := m.c1
  have c2 := m.c2
  have c3 := m.c3
  have f0 := m.fb 0
  have f1 := m.fb 1
  obtain ⟨t0, t1, t2, t3, t4, t5, t6⟩ := m.ct (k := 0) (o := 0) (by omega) rfl
  simp only [Nat.zero_add] at t1 t2 t3 t4 t5 t6
  have g0 := m.fh 0
  have g1 := m.fh 1
  have g2 := m.fh 2
  have g3 := m.fh 3
  have g4 := m.fh 4
  have g5 := m.fh 5
  have g6 := m.fh 6
  have hlth := m.lth
  have hltb := m.ltb
  have hltg := m.ltg
  have hbg := m.bg
  have hbh := m.bh
  have hgh := m.gh
  have hgb : ¬ g = b := fun e => hbg e.symm
  have hhb : ¬ h = b := fun e => hbh e.symm
  have hhg : ¬ h = g := fun e => hgh e.symm
  obtain ⟨hb0, hb1⟩ := hb
  subst hw
  go_enter Try.func29, Try.ntmps29
  go_wp2_with (go_at_call 36; refine (mover_calls (((m.sbot (bb + 1)).al _).al _) (k := 0) (by omega) op v 0 HOP).mono ?_; rintro e w1 ⟨rfl, hD, hF⟩; have hq := DmAt.fr (b := w.heap.size + 1) (x := Dn.none) (DmAt.new2 (W := (w.setCell ⟨b, 1, none⟩ (.int .i64 (bb + 1))).alloc (.cells #[.bool on, .int .i64 op, .int .i64 6, .int .i64 v, .int .i64 t, .int .i64 bb, .bool true] 45)) (by simp)) hF (show ¬ w.heap.size + 1 = h by omega); obtain ⟨⟨q0, q1, q2, q3⟩, z0, z1, z2, z3⟩ := hq.cs; have hlt1 := hD.lth; have hltR := lt_of_blk hq; have hsz1 := hF.size; have HE := hide (end_over hltb hltg hlth hD (((((Fr.refl (fun k => k = b ∨ k = g ∨ k = h) w).setAt b 1 _ (.inr (.inl rfl))).alloc _).alloc _)) hF hq ⟨true, op, v, 0⟩ (.cells #[.bool true, .int .i64 op, .int .i64 v, .int .i64 0] 41)))
  obtain ⟨hN, hX, hY⟩ := HE.out
  exact bodyPost_ret (results_dm rfl _ _ (w.heap.size + 1) ⟨true, op, v, 0⟩ rfl hN) rfl ⟨rfl, hX, hY⟩

set_option maxHeartbeats 2000000 in
theorem q6n {w : World} {b g h S : Nat} {d : Mq} (m : IsM w b g h S d) (on : Bool) (op v t bb : Int) (won : Bool) (HOP : Hid ((d.th 0).op = op)) (hb : -1152921504606846976 ≤ bb ∧ bb ≤ 1152921504606846976) (hw : won = false) :
    Calls Try.prog 29 #[.pointer (some ⟨b, 0, none⟩), .agg #[.bool on, .int .i64 op, .int .i64 6, .int .i64 v, .int .i64 t, .int .i64 bb, .bool won]] w
      (AM w b g h S ((d.wbot (bb + 1)).set 0 Mt.zero) (⟨true, op, 0, 8⟩)) := by
  have c0 := m.c0
  have c1 := m.c1
  have c2 := m.c2
  have c3 := m.c3
  have f0 := m.fb 0
  have f1 := m.fb 1
  obtain ⟨t0, t1, t2, t3, t4, t5, t6⟩ := m.ct (k := 0) (o := 0) (by omega) rfl
  simp only [Nat.zero_add] at t1 t2 t3 t4 t5 t6
  have g0 := m.fh 0
  have g1 := m.fh 1
  have g2 := m.fh 2
  have g3 := m.fh 3
  have g4 := m.fh 4
  have g5 := m.fh 5
  have g6 := m.fh 6
  have hlth := m.lth
  have hltb := m.ltb
  have hltg := m.ltg
  have hbg := m.bg
  have hbh := m.bh
  have hgh := m.gh
  have hgb : ¬ g = b := fun e => hbg e.symm
  have hhb : ¬ h = b := fun e => hbh e.symm
  have hhg : ¬ h = g := fun e => hgh e.symm
  obtain ⟨hb0, hb1⟩ := hb
  subst hw
  go_enter Try.func29, Try.ntmps29
  go_wp2_with (go_at_call 36; refine (mover_calls (((m.sbot (bb + 1)).al _).al _) (k := 0) (by omega) op 0 8 HOP).mono ?_; rintro e w1 ⟨rfl, hD, hF⟩; have hq := DmAt.fr (b := w.heap.size + 1) (x := Dn.none) (DmAt.new2 (W := (w.setCell ⟨b, 1, none⟩ (.int .i64 (bb + 1))).alloc (.cells #[.bool on, .int .i64 op, .int .i64 6, .int .i64 v, .int .i64 t, .int .i64 bb, .bool false] 45)) (by simp)) hF (show ¬ w.heap.size + 1 = h by omega); obtain ⟨⟨q0, q1, q2, q3⟩, z0, z1, z2, z3⟩ := hq.cs; have hlt1 := hD.lth; have hltR := lt_of_blk hq; have hsz1 := hF.size; have HE := hide (end_over hltb hltg hlth hD (((((Fr.refl (fun k => k = b ∨ k = g ∨ k = h) w).setAt b 1 _ (.inr (.inl rfl))).alloc _).alloc _)) hF hq ⟨true, op, 0, 8⟩ (.cells #[.bool true, .int .i64 op, .int .i64 0, .int .i64 8] 41)))
  obtain ⟨hN, hX, hY⟩ := HE.out
  exact bodyPost_ret (results_dm rfl _ _ (w.heap.size + 1) ⟨true, op, 0, 8⟩ rfl hN) rfl ⟨rfl, hX, hY⟩

set_option maxHeartbeats 2000000 in
theorem q4t {w : World} {b g h S : Nat} {d : Mq} (m : IsM w b g h S d) (on : Bool) (op v t bb : Int) (won : Bool) (HOP : Hid ((d.th 0).op = op)) (hn : 0 ≤ bb ∧ bb ≤ 1152921504606846976) (hI : t < bb) :
    Calls Try.prog 29 #[.pointer (some ⟨b, 0, none⟩), .agg #[.bool on, .int .i64 op, .int .i64 4, .int .i64 v, .int .i64 t, .int .i64 bb, .bool won]] w
      (AM w b g h S (d.set 0 Mt.zero) (⟨true, op, d.pl (ix S bb), 0⟩)) := by
  have c0 := m.c0
  have c1 := m.c1
  have c2 := m.c2
  have c3 := m.c3
  have f0 := m.fb 0
  have f1 := m.fb 1
  obtain ⟨t0, t1, t2, t3, t4, t5, t6⟩ := m.ct (k := 0) (o := 0) (by omega) rfl
  simp only [Nat.zero_add] at t1 t2 t3 t4 t5 t6
  have g0 := m.fh 0
  have g1 := m.fh 1
  have g2 := m.fh 2
  have g3 := m.fh 3
  have g4 := m.fh 4
  have g5 := m.fh 5
  have g6 := m.fh 6
  have hlth := m.lth
  have hltb := m.ltb
  have hltg := m.ltg
  have hbg := m.bg
  have hbh := m.bh
  have hgh := m.gh
  have hgb : ¬ g = b := fun e => hbg e.symm
  have hhb : ¬ h = b := fun e => hbh e.symm
  have hhg : ¬ h = g := fun e => hgh e.symm
  obtain ⟨hn0, hn1⟩ := hn
  obtain ⟨i, hi⟩ : ∃ i, ix S bb = i := ⟨_, rfl⟩
  have HI := hide hi
  have hil : i < S := by rw [← hi]; exact ix_lt m.pos _
  have hilI : (i : Int) < (S : Int) := by omega
  have cgi := m.cg hil
  have fgi := m.fg i
  rw [hi]
  clear hi
  go_enter Try.func29, Try.ntmps29
  go_wp2
  go_region_with (go_at_call 32; refine (at_calls (((m.al _).al _).drewN _) bb ⟨hn0, hn1⟩ HI).mono ?_; rintro e w2 ⟨rfl, rfl⟩)
  all_goals
   go_wp2_with (go_at_call 36; refine (mover_calls ((((m.al _).al _).drewN 1).fr (Fr.set1 _ w.heap.size 3 (.int .i64 (d.pl i))) (show ¬ b = w.heap.size by omega) (show ¬ g = w.heap.size by omega) (show ¬ h = w.heap.size by omega)) (k := 0) (by omega) op (d.pl i) 0 HOP).mono ?_; rintro e w1 ⟨rfl, hD, hF⟩; have hq := DmAt.fr (b := w.heap.size + 1) (x := Dn.none) (DmAt.fr (DmAt.new5 (W := w.alloc (.cells #[.bool on, .int .i64 op, .int .i64 4, .int .i64 v, .int .i64 t, .int .i64 bb, .bool won] 45)) (by simp) 1) (Fr.set1 _ w.heap.size 3 (.int .i64 (d.pl i))) (show ¬ w.heap.size + 1 = w.heap.size by omega)) hF (show ¬ w.heap.size + 1 = h by omega); obtain ⟨⟨q0, q1, q2, q3⟩, z0, z1, z2, z3⟩ := hq.cs; have hlt1 := hD.lth; have hltR := lt_of_blk hq; have hsz1 := hF.size; have HE := hide (end_over hltb hltg hlth hD (((((Fr.refl (fun k => k = b ∨ k = g ∨ k = h) w).alloc _).alloc _).drewN 1).setAt w.heap.size 3 _ (.inl (Nat.le_refl _))) hF hq ⟨true, op, (d.pl i), 0⟩ (.cells #[.bool true, .int .i64 op, .int .i64 (d.pl i), .int .i64 0] 41)))
   obtain ⟨hN, hX, hY⟩ := HE.out
   exact bodyPost_ret (results_dm rfl _ _ (w.heap.size + 1) ⟨true, op, d.pl i, 0⟩ rfl hN) rfl ⟨rfl, hX, hY⟩

set_option maxHeartbeats 2000000 in
theorem q4n {w : World} {b g h S : Nat} {d : Mq} (m : IsM w b g h S d) (on : Bool) (op v t bb : Int) (won : Bool) (hn : 0 ≤ bb ∧ bb ≤ 1152921504606846976) (hI : t ≤ bb) (hJ : bb ≤ t) :
    Calls Try.prog 29 #[.pointer (some ⟨b, 0, none⟩), .agg #[.bool on, .int .i64 op, .int .i64 4, .int .i64 v, .int .i64 t, .int .i64 bb, .bool won]] w
      (AM w b g h S (d.set 0 ⟨on, op, 4, (d.pl (ix S bb)), t, bb, won⟩) Dn.none) := by
  have c0 := m.c0
  have c1 := m.c1
  have c2 := m.c2
  have c3 := m.c3
  have f0 := m.fb 0
  have f1 := m.fb 1
  obtain ⟨t0, t1, t2, t3, t4, t5, t6⟩ := m.ct (k := 0) (o := 0) (by omega) rfl
  simp only [Nat.zero_add] at t1 t2 t3 t4 t5 t6
  have g0 := m.fh 0
  have g1 := m.fh 1
  have g2 := m.fh 2
  have g3 := m.fh 3
  have g4 := m.fh 4
  have g5 := m.fh 5
  have g6 := m.fh 6
  have hlth := m.lth
  have hltb := m.ltb
  have hltg := m.ltg
  have hbg := m.bg
  have hbh := m.bh
  have hgh := m.gh
  have hgb : ¬ g = b := fun e => hbg e.symm
  have hhb : ¬ h = b := fun e => hbh e.symm
  have hhg : ¬ h = g := fun e => hgh e.symm
  obtain ⟨hn0, hn1⟩ := hn
  obtain ⟨i, hi⟩ : ∃ i, ix S bb = i := ⟨_, rfl⟩
  have HI := hide hi
  have hil : i < S := by rw [← hi]; exact ix_lt m.pos _
  have hilI : (i : Int) < (S : Int) := by omega
  have cgi := m.cg hil
  have fgi := m.fg i
  rw [hi]
  clear hi
  go_enter Try.func29, Try.ntmps29
  go_wp2
  go_region_with (go_at_call 32; refine (at_calls (((m.al _).al _).drewN _) bb ⟨hn0, hn1⟩ HI).mono ?_; rintro e w2 ⟨rfl, rfl⟩)
  all_goals go_wp2
  all_goals go_region_with (fail)
  all_goals go_wp2
  all_goals
    have hW : (((((((((((w.alloc (.cells #[.bool on, .int .i64 op, .int .i64 4, .int .i64 v, .int .i64 t, .int .i64 bb, .bool won] 45)).alloc (.cells #[.bool false, .int .i64 0, .int .i64 0, .int .i64 0] 41)).drewN 1).setCell ⟨w.heap.size, 3, none⟩ (.int .i64 (d.pl i))).setCell ⟨h, 0, none⟩ (.bool on)).setCell ⟨h, 1, none⟩ (.int .i64 op)).setCell ⟨h, 2, none⟩ (.int .i64 4)).setCell ⟨h, 3, none⟩ (.int .i64 (d.pl i))).setCell ⟨h, 4, none⟩ (.int .i64 t)).setCell ⟨h, 5, none⟩ (.int .i64 bb)).setCell ⟨h, 6, none⟩ (.bool won)) = mset7 ((((w.alloc (.cells #[.bool on, .int .i64 op, .int .i64 4, .int .i64 v, .int .i64 t, .int .i64 bb, .bool won] 45)).alloc (.cells #[.bool false, .int .i64 0, .int .i64 0, .int .i64 0] 41)).drewN 1).setCell ⟨w.heap.size, 3, none⟩ (.int .i64 (d.pl i))) h (0) ⟨on, op, 4, (d.pl i), t, bb, won⟩ := rfl
    have hE := end_set4 (w := w) (W := (((w.alloc (.cells #[.bool on, .int .i64 op, .int .i64 4, .int .i64 v, .int .i64 t, .int .i64 bb, .bool won] 45)).alloc (.cells #[.bool false, .int .i64 0, .int .i64 0, .int .i64 0] 41)).drewN 1).setCell ⟨w.heap.size, 3, none⟩ (.int .i64 (d.pl i))) hltb hltg hlth (0) ⟨on, op, 4, (d.pl i), t, bb, won⟩ (DmAt.fr (DmAt.new5 (W := w.alloc (.cells #[.bool on, .int .i64 op, .int .i64 4, .int .i64 v, .int .i64 t, .int .i64 bb, .bool won] 45)) (by simp) 1) (Fr.set1 _ w.heap.size 3 (.int .i64 (d.pl i))) (show ¬ w.heap.size + 1 = w.heap.size by omega)) (((((m.al _).al _).drewN 1).fr (Fr.set1 _ w.heap.size 3 (.int .i64 (d.pl i))) (show ¬ b = w.heap.size by omega) (show ¬ g = w.heap.size by omega) (show ¬ h = w.heap.size by omega)).sth (k := 0) (by omega) rfl ⟨on, op, 4, (d.pl i), t, bb, won⟩) (((((Fr.refl (fun k => k = b ∨ k = g ∨ k = h) w).alloc _).alloc _).drewN 1).setAt w.heap.size 3 _ (.inl (Nat.le_refl _)))
    rw [hW]
    exact bodyPost_ret (results_dm rfl _ _ (w.heap.size + 1) Dn.none rfl hE.1) rfl ⟨rfl, hE.2.1, hE.2.2⟩


end Go.Proofs.Ytingpopcdihclaa
