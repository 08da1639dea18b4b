/-
  The document's steal, walked way by way.
-/
import Derived.Test.YtingpopcdihclaaDrEnd
namespace Go.Proofs.Ytingpopcdihclaa
open Go.RowKit
set_option linter.unusedVariables false
set_option maxRecDepth 8192

set_option maxHeartbeats 2000000 in
theorem r1 {w : World} {b g h S : Nat} {d : Mq} (m : IsM w b g h S d) {k : Nat} (hk : k < 8) (on : Bool) (op v t bb : Int) (won : Bool) :
    Calls Try.prog 30 #[.pointer (some ⟨b, 0, none⟩), .int .i64 (k : Int), .agg #[.bool on, .int .i64 op, .int .i64 1, .int .i64 v, .int .i64 t, .int .i64 bb, .bool won]] w
      (AM w b g h S (d.set k ⟨on, op, 1, v, d.top, bb, won⟩) Dn.none) := by
  have c0 := m.c0
  have c1 := m.c1
  have c2 := m.c2
  have c3 := m.c3
  have f0 := m.fb 0
  have f1 := m.fb 1
  obtain ⟨t0, t1, t2, t3, t4, t5, t6⟩ := m.ct hk rfl
  have hk' : (k : Int) < 8 := by omega
  have g0 := m.fh (k * 7)
  have g1 := m.fh (k * 7 + 1)
  have g2 := m.fh (k * 7 + 2)
  have g3 := m.fh (k * 7 + 3)
  have g4 := m.fh (k * 7 + 4)
  have g5 := m.fh (k * 7 + 5)
  have g6 := m.fh (k * 7 + 6)
  have hlth := m.lth
  have hltb := m.ltb
  have hltg := m.ltg
  have hbg := m.bg
  have hbh := m.bh
  have hgh := m.gh
  have hgb : ¬ g = b := fun e => hbg e.symm
  have hhb : ¬ h = b := fun e => hbh e.symm
  have hhg : ¬ h = g := fun e => hgh e.symm
  go_enter Try.func30, Try.ntmps30
  go_wp2
  go_region_with (fail)
  all_goals go_wp2
  all_goals
    have hW : ((((((((w).setCell ⟨h, k * 7, none⟩ (.bool on)).setCell ⟨h, k * 7 + 1, none⟩ (.int .i64 op)).setCell ⟨h, k * 7 + 2, none⟩ (.int .i64 1)).setCell ⟨h, k * 7 + 3, none⟩ (.int .i64 v)).setCell ⟨h, k * 7 + 4, none⟩ (.int .i64 d.top)).setCell ⟨h, k * 7 + 5, none⟩ (.int .i64 bb)).setCell ⟨h, k * 7 + 6, none⟩ (.bool won)) = mset7 (w) h (k * 7) ⟨on, op, 1, v, d.top, bb, won⟩ := rfl
    have hE := end_set (w := w) (W := mset7 (w) h (k * 7) ⟨on, op, 1, v, d.top, bb, won⟩) (.cells #[.bool on, .int .i64 op, .int .i64 1, .int .i64 v, .int .i64 d.top, .int .i64 bb, .bool won] 45) (by rw [mset7_size]) ((m).sth hk rfl ⟨on, op, 1, v, d.top, bb, won⟩) (((Fr.refl (fun k => k = b ∨ k = g ∨ k = h) w)).trans (mset7_fr (w) h (k * 7) ⟨on, op, 1, v, d.top, bb, won⟩) (fun _ _ h => h) (fun _ _ h => .inr (.inr h)))
    rw [hW]
    exact bodyPost_ret (results_dm rfl _ _ (w.heap.size + 1) Dn.none rfl hE.1) rfl ⟨rfl, hE.2.1, hE.2.2⟩

set_option maxHeartbeats 2000000 in
theorem r2y {w : World} {b g h S : Nat} {d : Mq} (m : IsM w b g h S d) {k : Nat} (hk : k < 8) (on : Bool) (op v t bb : Int) (won : Bool) (HOP : Hid ((d.th k).op = op)) (hI : d.bot ≤ t) :
    Calls Try.prog 30 #[.pointer (some ⟨b, 0, none⟩), .int .i64 (k : Int), .agg #[.bool on, .int .i64 op, .int .i64 2, .int .i64 v, .int .i64 t, .int .i64 bb, .bool won]] w
      (AM w b g h S (d.set k Mt.zero) (⟨true, op, 0, 8⟩)) := by
  have c0 := m.c0
  have c1 := m.c1
  have c2 := m.c2
  have c3 := m.c3
  have f0 := m.fb 0
  have f1 := m.fb 1
  obtain ⟨t0, t1, t2, t3, t4, t5, t6⟩ := m.ct hk rfl
  have hk' : (k : Int) < 8 := by omega
  have g0 := m.fh (k * 7)
  have g1 := m.fh (k * 7 + 1)
  have g2 := m.fh (k * 7 + 2)
  have g3 := m.fh (k * 7 + 3)
  have g4 := m.fh (k * 7 + 4)
  have g5 := m.fh (k * 7 + 5)
  have g6 := m.fh (k * 7 + 6)
  have hlth := m.lth
  have hltb := m.ltb
  have hltg := m.ltg
  have hbg := m.bg
  have hbh := m.bh
  have hgh := m.gh
  have hgb : ¬ g = b := fun e => hbg e.symm
  have hhb : ¬ h = b := fun e => hbh e.symm
  have hhg : ¬ h = g := fun e => hgh e.symm
  go_enter Try.func30, Try.ntmps30
  go_wp2_with (go_at_call 36; refine (mover_calls ((m.al _).al _) hk op 0 8 HOP).mono ?_; rintro e w1 ⟨rfl, hD, hF⟩; have hq := DmAt.fr (b := w.heap.size + 1) (x := Dn.none) (DmAt.new2 (W := w.alloc (.cells #[.bool on, .int .i64 op, .int .i64 2, .int .i64 v, .int .i64 t, .int .i64 d.bot, .bool won] 45)) (by simp)) hF (show ¬ w.heap.size + 1 = h by omega); obtain ⟨⟨q0, q1, q2, q3⟩, z0, z1, z2, z3⟩ := hq.cs; have hlt1 := hD.lth; have hltR := lt_of_blk hq; have hsz1 := hF.size; have HE := hide (end_over hltb hltg hlth hD ((((Fr.refl (fun k => k = b ∨ k = g ∨ k = h) w).alloc _).alloc _)) hF hq ⟨true, op, 0, 8⟩ (.cells #[.bool true, .int .i64 op, .int .i64 0, .int .i64 8] 41)))
  obtain ⟨hN, hX, hY⟩ := HE.out
  exact bodyPost_ret (results_dm rfl _ _ (w.heap.size + 1) ⟨true, op, 0, 8⟩ rfl hN) rfl ⟨rfl, hX, hY⟩

set_option maxHeartbeats 2000000 in
theorem r2n {w : World} {b g h S : Nat} {d : Mq} (m : IsM w b g h S d) {k : Nat} (hk : k < 8) (on : Bool) (op v t bb : Int) (won : Bool) (hI : t < d.bot) :
    Calls Try.prog 30 #[.pointer (some ⟨b, 0, none⟩), .int .i64 (k : Int), .agg #[.bool on, .int .i64 op, .int .i64 2, .int .i64 v, .int .i64 t, .int .i64 bb, .bool won]] w
      (AM w b g h S (d.set k ⟨on, op, 2, v, t, d.bot, won⟩) Dn.none) := by
  have c0 := m.c0
  have c1 := m.c1
  have c2 := m.c2
  have c3 := m.c3
  have f0 := m.fb 0
  have f1 := m.fb 1
  obtain ⟨t0, t1, t2, t3, t4, t5, t6⟩ := m.ct hk rfl
  have hk' : (k : Int) < 8 := by omega
  have g0 := m.fh (k * 7)
  have g1 := m.fh (k * 7 + 1)
  have g2 := m.fh (k * 7 + 2)
  have g3 := m.fh (k * 7 + 3)
  have g4 := m.fh (k * 7 + 4)
  have g5 := m.fh (k * 7 + 5)
  have g6 := m.fh (k * 7 + 6)
  have hlth := m.lth
  have hltb := m.ltb
  have hltg := m.ltg
  have hbg := m.bg
  have hbh := m.bh
  have hgh := m.gh
  have hgb : ¬ g = b := fun e => hbg e.symm
  have hhb : ¬ h = b := fun e => hbh e.symm
  have hhg : ¬ h = g := fun e => hgh e.symm
  go_enter Try.func30, Try.ntmps30
  go_wp2
  go_region_with (fail)
  all_goals go_wp2
  all_goals
    have hW : ((((((((w).setCell ⟨h, k * 7, none⟩ (.bool on)).setCell ⟨h, k * 7 + 1, none⟩ (.int .i64 op)).setCell ⟨h, k * 7 + 2, none⟩ (.int .i64 2)).setCell ⟨h, k * 7 + 3, none⟩ (.int .i64 v)).setCell ⟨h, k * 7 + 4, none⟩ (.int .i64 t)).setCell ⟨h, k * 7 + 5, none⟩ (.int .i64 d.bot)).setCell ⟨h, k * 7 + 6, none⟩ (.bool won)) = mset7 (w) h (k * 7) ⟨on, op, 2, v, t, d.bot, won⟩ := rfl
    have hE := end_set (w := w) (W := mset7 (w) h (k * 7) ⟨on, op, 2, v, t, d.bot, won⟩) (.cells #[.bool on, .int .i64 op, .int .i64 2, .int .i64 v, .int .i64 t, .int .i64 d.bot, .bool won] 45) (by rw [mset7_size]) ((m).sth hk rfl ⟨on, op, 2, v, t, d.bot, won⟩) (((Fr.refl (fun k => k = b ∨ k = g ∨ k = h) w)).trans (mset7_fr (w) h (k * 7) ⟨on, op, 2, v, t, d.bot, won⟩) (fun _ _ h => h) (fun _ _ h => .inr (.inr h)))
    rw [hW]
    exact bodyPost_ret (results_dm rfl _ _ (w.heap.size + 1) Dn.none rfl hE.1) rfl ⟨rfl, hE.2.1, hE.2.2⟩

set_option maxHeartbeats 2000000 in
theorem r4n {w : World} {b g h S : Nat} {d : Mq} (m : IsM w b g h S d) {k : Nat} (hk : k < 8) (on : Bool) (op v t bb : Int) (won : Bool) (HOP : Hid ((d.th k).op = op)) (hI : ¬ d.top = t) :
    Calls Try.prog 30 #[.pointer (some ⟨b, 0, none⟩), .int .i64 (k : Int), .agg #[.bool on, .int .i64 op, .int .i64 4, .int .i64 v, .int .i64 t, .int .i64 bb, .bool won]] w
      (AM w b g h S (d.set k Mt.zero) (⟨true, op, 0, 17⟩)) := by
  have c0 := m.c0
  have c1 := m.c1
  have c2 := m.c2
  have c3 := m.c3
  have f0 := m.fb 0
  have f1 := m.fb 1
  obtain ⟨t0, t1, t2, t3, t4, t5, t6⟩ := m.ct hk rfl
  have hk' : (k : Int) < 8 := by omega
  have g0 := m.fh (k * 7)
  have g1 := m.fh (k * 7 + 1)
  have g2 := m.fh (k * 7 + 2)
  have g3 := m.fh (k * 7 + 3)
  have g4 := m.fh (k * 7 + 4)
  have g5 := m.fh (k * 7 + 5)
  have g6 := m.fh (k * 7 + 6)
  have hlth := m.lth
  have hltb := m.ltb
  have hltg := m.ltg
  have hbg := m.bg
  have hbh := m.bh
  have hgh := m.gh
  have hgb : ¬ g = b := fun e => hbg e.symm
  have hhb : ¬ h = b := fun e => hbh e.symm
  have hhg : ¬ h = g := fun e => hgh e.symm
  have hne : (d.top == t) = false := by simpa using hI
  clear hI
  go_enter Try.func30, Try.ntmps30
  go_wp2
  go_quiet (fail)
  go_wp2_with (go_at_call 36; refine (mover_calls (((m.al _).al _).drewN _) hk op 0 17 HOP).mono ?_; rintro e w1 ⟨rfl, hD, hF⟩; have hq := DmAt.fr (b := w.heap.size + 1) (x := Dn.none) (DmAt.new5 (W := w.alloc (.cells #[.bool on, .int .i64 op, .int .i64 4, .int .i64 v, .int .i64 t, .int .i64 bb, .bool won] 45)) (by simp) _) hF (show ¬ w.heap.size + 1 = h by omega); obtain ⟨⟨q0, q1, q2, q3⟩, z0, z1, z2, z3⟩ := hq.cs; have hlt1 := hD.lth; have hltR := lt_of_blk hq; have hsz1 := hF.size; have HE := hide (end_over hltb hltg hlth hD (((((Fr.refl (fun k => k = b ∨ k = g ∨ k = h) w).alloc _).alloc _).drewN _)) hF hq ⟨true, op, 0, 17⟩ (.cells #[.bool true, .int .i64 op, .int .i64 0, .int .i64 17] 41)))
  obtain ⟨hN, hX, hY⟩ := HE.out
  exact bodyPost_ret (results_dm rfl _ _ (w.heap.size + 1) ⟨true, op, 0, 17⟩ rfl hN) rfl ⟨rfl, hX, hY⟩

set_option maxHeartbeats 2000000 in
theorem r4y {w : World} {b g h S : Nat} {d : Mq} (m : IsM w b g h S d) {k : Nat} (hk : k < 8) (on : Bool) (op v t bb : Int) (won : Bool) (HOP : Hid ((d.th k).op = op)) (ht : -1152921504606846976 ≤ t ∧ t ≤ 1152921504606846976) (hI : d.top = t) :
    Calls Try.prog 30 #[.pointer (some ⟨b, 0, none⟩), .int .i64 (k : Int), .agg #[.bool on, .int .i64 op, .int .i64 4, .int .i64 v, .int .i64 t, .int .i64 bb, .bool won]] w
      (AM w b g h S ((d.wtop (t + 1)).set k Mt.zero) (⟨true, op, v, 0⟩)) := by
  have c0 := m.c0
  have c1 := m.c1
  have c2 := m.c2
  have c3 := m.c3
  have f0 := m.fb 0
  have f1 := m.fb 1
  obtain ⟨t0, t1, t2, t3, t4, t5, t6⟩ := m.ct hk rfl
  have hk' : (k : Int) < 8 := by omega
  have g0 := m.fh (k * 7)
  have g1 := m.fh (k * 7 + 1)
  have g2 := m.fh (k * 7 + 2)
  have g3 := m.fh (k * 7 + 3)
  have g4 := m.fh (k * 7 + 4)
  have g5 := m.fh (k * 7 + 5)
  have g6 := m.fh (k * 7 + 6)
  have hlth := m.lth
  have hltb := m.ltb
  have hltg := m.ltg
  have hbg := m.bg
  have hbh := m.bh
  have hgh := m.gh
  have hgb : ¬ g = b := fun e => hbg e.symm
  have hhb : ¬ h = b := fun e => hbh e.symm
  have hhg : ¬ h = g := fun e => hgh e.symm
  obtain ⟨ht0, ht1⟩ := ht
  rw [hI] at c0
  clear hI
  go_enter Try.func30, Try.ntmps30
  go_wp2
  go_quiet (fail)
  go_wp2_with (go_at_call 36; refine (mover_calls ((((m.al _).al _).drewN nq).stop (t + 1)) hk op v 0 HOP).mono ?_; rintro e w1 ⟨rfl, hD, hF⟩; have hq := DmAt.fr (b := w.heap.size + 1) (x := Dn.none) (DmAt.fr (DmAt.new5 (W := w.alloc (.cells #[.bool on, .int .i64 op, .int .i64 4, .int .i64 v, .int .i64 t, .int .i64 bb, .bool won] 45)) (by simp) nq) (Fr.set1 _ b 0 (.int .i64 (t + 1))) (show ¬ w.heap.size + 1 = b by omega)) hF (show ¬ w.heap.size + 1 = h by omega); obtain ⟨⟨q0, q1, q2, q3⟩, z0, z1, z2, z3⟩ := hq.cs; have hlt1 := hD.lth; have hltR := lt_of_blk hq; have hsz1 := hF.size; have HE := hide (end_over hltb hltg hlth hD ((((((Fr.refl (fun k => k = b ∨ k = g ∨ k = h) w).alloc _).alloc _).drewN _).setAt b 0 _ (.inr (.inl rfl)))) hF hq ⟨true, op, v, 0⟩ (.cells #[.bool true, .int .i64 op, .int .i64 v, .int .i64 0] 41)))
  obtain ⟨hN, hX, hY⟩ := HE.out
  exact bodyPost_ret (results_dm rfl _ _ (w.heap.size + 1) ⟨true, op, v, 0⟩ rfl hN) rfl ⟨rfl, hX, hY⟩

set_option maxHeartbeats 2000000 in
theorem r3 {w : World} {b g h S : Nat} {d : Mq} (m : IsM w b g h S d) {k : Nat} (hk : k < 8) (on : Bool) (op v t bb : Int) (won : Bool) (hn : 0 ≤ t ∧ t ≤ 1152921504606846976) :
    Calls Try.prog 30 #[.pointer (some ⟨b, 0, none⟩), .int .i64 (k : Int), .agg #[.bool on, .int .i64 op, .int .i64 3, .int .i64 v, .int .i64 t, .int .i64 bb, .bool won]] w
      (AM w b g h S (d.set k ⟨on, op, 3, (d.pl (ix S t)), t, bb, won⟩) Dn.none) := by
  have c0 := m.c0
  have c1 := m.c1
  have c2 := m.c2
  have c3 := m.c3
  have f0 := m.fb 0
  have f1 := m.fb 1
  obtain ⟨t0, t1, t2, t3, t4, t5, t6⟩ := m.ct hk rfl
  have hk' : (k : Int) < 8 := by omega
  have g0 := m.fh (k * 7)
  have g1 := m.fh (k * 7 + 1)
  have g2 := m.fh (k * 7 + 2)
  have g3 := m.fh (k * 7 + 3)
  have g4 := m.fh (k * 7 + 4)
  have g5 := m.fh (k * 7 + 5)
  have g6 := m.fh (k * 7 + 6)
  have hlth := m.lth
  have hltb := m.ltb
  have hltg := m.ltg
  have hbg := m.bg
  have hbh := m.bh
  have hgh := m.gh
  have hgb : ¬ g = b := fun e => hbg e.symm
  have hhb : ¬ h = b := fun e => hbh e.symm
  have hhg : ¬ h = g := fun e => hgh e.symm
  obtain ⟨hn0, hn1⟩ := hn
  obtain ⟨i, hi⟩ : ∃ i, ix S t = i := ⟨_, rfl⟩
  have HI := hide hi
  have hil : i < S := by rw [← hi]; exact ix_lt m.pos _
  have hilI : (i : Int) < (S : Int) := by omega
  have cgi := m.cg hil
  have fgi := m.fg i
  rw [hi]
  clear hi
  go_enter Try.func30, Try.ntmps30
  go_wp2
  go_region_with (go_at_call 32; refine (at_calls (((m.al _).al _).drewN _) t ⟨hn0, hn1⟩ HI).mono ?_; rintro e w2 ⟨rfl, rfl⟩)
  all_goals go_wp2
  all_goals go_region_with (fail)
  all_goals go_wp2
  all_goals
    have hW : (((((((((((w.alloc (.cells #[.bool on, .int .i64 op, .int .i64 3, .int .i64 v, .int .i64 t, .int .i64 bb, .bool won] 45)).alloc (.cells #[.bool false, .int .i64 0, .int .i64 0, .int .i64 0] 41)).drewN 1).setCell ⟨w.heap.size, 3, none⟩ (.int .i64 (d.pl i))).setCell ⟨h, k * 7, none⟩ (.bool on)).setCell ⟨h, k * 7 + 1, none⟩ (.int .i64 op)).setCell ⟨h, k * 7 + 2, none⟩ (.int .i64 3)).setCell ⟨h, k * 7 + 3, none⟩ (.int .i64 (d.pl i))).setCell ⟨h, k * 7 + 4, none⟩ (.int .i64 t)).setCell ⟨h, k * 7 + 5, none⟩ (.int .i64 bb)).setCell ⟨h, k * 7 + 6, none⟩ (.bool won)) = mset7 ((((w.alloc (.cells #[.bool on, .int .i64 op, .int .i64 3, .int .i64 v, .int .i64 t, .int .i64 bb, .bool won] 45)).alloc (.cells #[.bool false, .int .i64 0, .int .i64 0, .int .i64 0] 41)).drewN 1).setCell ⟨w.heap.size, 3, none⟩ (.int .i64 (d.pl i))) h (k * 7) ⟨on, op, 3, (d.pl i), t, bb, won⟩ := rfl
    have hE := end_set4 (w := w) (W := (((w.alloc (.cells #[.bool on, .int .i64 op, .int .i64 3, .int .i64 v, .int .i64 t, .int .i64 bb, .bool won] 45)).alloc (.cells #[.bool false, .int .i64 0, .int .i64 0, .int .i64 0] 41)).drewN 1).setCell ⟨w.heap.size, 3, none⟩ (.int .i64 (d.pl i))) hltb hltg hlth (k * 7) ⟨on, op, 3, (d.pl i), t, bb, won⟩ (DmAt.fr (DmAt.new5 (W := w.alloc (.cells #[.bool on, .int .i64 op, .int .i64 3, .int .i64 v, .int .i64 t, .int .i64 bb, .bool won] 45)) (by simp) 1) (Fr.set1 _ w.heap.size 3 (.int .i64 (d.pl i))) (show ¬ w.heap.size + 1 = w.heap.size by omega)) (((((m.al _).al _).drewN 1).fr (Fr.set1 _ w.heap.size 3 (.int .i64 (d.pl i))) (show ¬ b = w.heap.size by omega) (show ¬ g = w.heap.size by omega) (show ¬ h = w.heap.size by omega)).sth hk rfl ⟨on, op, 3, (d.pl i), t, bb, won⟩) (((((Fr.refl (fun k => k = b ∨ k = g ∨ k = h) w).alloc _).alloc _).drewN 1).setAt w.heap.size 3 _ (.inl (Nat.le_refl _)))
    rw [hW]
    exact bodyPost_ret (results_dm rfl _ _ (w.heap.size + 1) Dn.none rfl hE.1) rfl ⟨rfl, hE.2.1, hE.2.2⟩


end Go.Proofs.Ytingpopcdihclaa
