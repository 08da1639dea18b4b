/-
  The document's Step, over whatever its push, pop and steal do.
-/
import Derived.Test.YtingpopcdihclaaDrEnd
namespace Go.Proofs.Ytingpopcdihclaa
open Go.RowKit
set_option linter.unusedVariables false
set_option maxRecDepth 8192

set_option maxHeartbeats 2000000 in
theorem mstep_out {w : World} {b g h S : Nat} {q : Mq} (m : IsM w b g h S q) {n : Int} (hn : ¬ (0 ≤ n ∧ n < 8)) :
    Calls Try.prog 16 #[.pointer (some ⟨b, 0, none⟩), .int .i64 n] w fun e w' => e = .returned (.tuple #[dnV Dn.none, .int .i64 1]) ∧ IsM w' b g h S q ∧ FrM b g h w w' := by
  by_cases h0 : n < 0
  · clear hn
    go_enter Try.func16, Try.ntmps16
    go_wp2
    exact bodyPost_ret (results_dm2 rfl _ _ w.heap.size Dn.none rfl (DmAt.new w)) rfl ⟨rfl, m.al _, (Fr.refl _ w).alloc _⟩
  · have h1 : 0 ≤ n := by omega
    have h8 : 8 ≤ n := by omega
    clear hn h0
    go_enter Try.func16, Try.ntmps16
    go_wp2
    exact bodyPost_ret (results_dm2 rfl _ _ w.heap.size Dn.none rfl (DmAt.new w)) rfl ⟨rfl, m.al _, (Fr.refl _ w).alloc _⟩

set_option maxHeartbeats 2000000 in
theorem mstep_idle {w : World} {b g h S : Nat} {q : Mq} (m : IsM w b g h S q) {k : Nat} (hk : k < 8) (ho : (q.th k).on = false) :
    Calls Try.prog 16 #[.pointer (some ⟨b, 0, none⟩), .int .i64 (k : Int)] w fun e w' => e = .returned (.tuple #[dnV Dn.none, .int .i64 13]) ∧ IsM w' b g h S q ∧ FrM b g h w w' := by
  obtain ⟨t0, t1, t2, t3, t4, t5, t6⟩ := m.ct hk rfl
  rw [ho] at t0
  have c3 := m.c3
  have hlth := m.lth
  have hltb := m.ltb
  have hk' : (k : Int) < 8 := by omega
  go_enter Try.func16, Try.ntmps16
  go_wp2
  exact bodyPost_ret (results_dm2 rfl _ _ w.heap.size Dn.none rfl ((DmAt.new w).fr ((Fr.refl (fun _ => False) _).alloc _) (fun h => h))) rfl ⟨rfl, (m.al _).al _, ((Fr.refl _ w).alloc _).alloc _⟩

set_option maxHeartbeats 4000000 in
theorem mstep_push {w : World} {b g h S : Nat} {q q' : Mq} {y : Dn} (m : IsM w b g h S q) (md v t bb : Int) (won : Bool) (hmd : 0 ≤ md ∧ md ≤ 6) (hth : q.th 0 = ⟨true, 0, md, v, t, bb, won⟩)
    (hc : ∀ W, IsM W b g h S q → Calls Try.prog 28 #[.pointer (some ⟨b, 0, none⟩), .agg #[.bool true, .int .i64 0, .int .i64 (md + 1), .int .i64 v, .int .i64 t, .int .i64 bb, .bool won]] W (AM W b g h S q' y)) :
    Calls Try.prog 16 #[.pointer (some ⟨b, 0, none⟩), .int .i64 ((0 : Nat) : Int)] w fun e w' => e = .returned (.tuple #[dnV y, .int .i64 0]) ∧ IsM w' b g h S q' ∧ FrM b g h w w' := by
  obtain ⟨t0, t1, t2, t3, t4, t5, t6⟩ := m.ct (k := 0) (o := 0) (by omega) rfl
  rw [hth] at t0 t1 t2 t3 t4 t5 t6
  simp only [Nat.zero_add] at t1 t2 t3 t4 t5 t6
  have HC := hide hc
  clear hc hth
  obtain ⟨m0, m1⟩ := hmd
  have c3 := m.c3
  have hlth := m.lth
  have hltb := m.ltb
  have hltg := m.ltg
  have HR0 := hide (((DmAt.new w).fr ((Fr.refl (fun _ => False) _).alloc (.cells #[.bool true, .int .i64 0, .int .i64 (md + 1), .int .i64 v, .int .i64 t, .int .i64 bb, .bool won] 45)) (fun h => h)).fr ((Fr.refl (fun _ => False) _).alloc (.cells #[.bool false, .int .i64 0, .int .i64 0, .int .i64 0] 41)) (fun h => h))
  have HX0 := hide (DmAt.new2 (W := (w.alloc (.cells #[.bool false, .int .i64 0, .int .i64 0, .int .i64 0] 41)).alloc (.cells #[.bool true, .int .i64 0, .int .i64 (md + 1), .int .i64 v, .int .i64 t, .int .i64 bb, .bool won] 45)) (n := w.heap.size + 1 + 1) (by simp))
  go_enter Try.func16, Try.ntmps16
  go_wp2_with (go_at_call 28; refine (unhide HC _ (((m.al _).al _).al _)).mono ?_; rintro e w1 ⟨rfl, hM, hF⟩; unfold dnV; dsimp only; have hx := HX0.out.fr hF (show ¬ (w.heap.size + 1 + 1 = b ∨ w.heap.size + 1 + 1 = g ∨ w.heap.size + 1 + 1 = h) by omega); have hr := HR0.out.fr hF (show ¬ (w.heap.size = b ∨ w.heap.size = g ∨ w.heap.size = h) by omega); obtain ⟨⟨x0, x1, x2, x3⟩, u0, u1, u2, u3⟩ := hx.cs; obtain ⟨⟨r0, r1, r2, r3⟩, s0, s1, s2, s3⟩ := hr.cs; have hl1 := lt_of_blk hx; have hl2 := lt_of_blk hr; have HF := hide hF)
  have hr2 := (hr.fr (dm_fr w1 (w.heap.size + 1 + 1) y) (show ¬ w.heap.size = w.heap.size + 1 + 1 by omega)).set y
  have hM2 := (hM.fr (dm_fr w1 (w.heap.size + 1 + 1) y) (by omega) (by omega) (by omega)).fr (dm_fr _ w.heap.size y) (by omega) (by omega) (by omega)
  have hF2 := (((((Fr.refl (fun k => k = b ∨ k = g ∨ k = h) w).alloc _).alloc _).alloc _).trans HF.out (fun _ _ h => h) (fun _ _ h => h)).trans ((dm_fr w1 (w.heap.size + 1 + 1) y).trans (dm_fr _ w.heap.size y) (T := fun k => w.heap.size ≤ k) (fun _ _ h => by omega) (fun _ _ h => by omega)) (T := fun k => k = b ∨ k = g ∨ k = h) (fun _ _ h => h) (fun i hi e => by omega)
  exact bodyPost_ret (results_dm2 rfl _ _ w.heap.size y rfl hr2) rfl ⟨rfl, hM2, hF2⟩

set_option maxHeartbeats 4000000 in
theorem mstep_pop {w : World} {b g h S : Nat} {q q' : Mq} {y : Dn} (m : IsM w b g h S q) (md v t bb : Int) (won : Bool) (hmd : 0 ≤ md ∧ md ≤ 6) (hth : q.th 0 = ⟨true, 1, md, v, t, bb, won⟩)
    (hc : ∀ W, IsM W b g h S q → Calls Try.prog 29 #[.pointer (some ⟨b, 0, none⟩), .agg #[.bool true, .int .i64 1, .int .i64 (md + 1), .int .i64 v, .int .i64 t, .int .i64 bb, .bool won]] W (AM W b g h S q' y)) :
    Calls Try.prog 16 #[.pointer (some ⟨b, 0, none⟩), .int .i64 ((0 : Nat) : Int)] w fun e w' => e = .returned (.tuple #[dnV y, .int .i64 0]) ∧ IsM w' b g h S q' ∧ FrM b g h w w' := by
  obtain ⟨t0, t1, t2, t3, t4, t5, t6⟩ := m.ct (k := 0) (o := 0) (by omega) rfl
  rw [hth] at t0 t1 t2 t3 t4 t5 t6
  simp only [Nat.zero_add] at t1 t2 t3 t4 t5 t6
  have HC := hide hc
  clear hc hth
  obtain ⟨m0, m1⟩ := hmd
  have c3 := m.c3
  have hlth := m.lth
  have hltb := m.ltb
  have hltg := m.ltg
  have HR0 := hide (((DmAt.new w).fr ((Fr.refl (fun _ => False) _).alloc (.cells #[.bool true, .int .i64 1, .int .i64 (md + 1), .int .i64 v, .int .i64 t, .int .i64 bb, .bool won] 45)) (fun h => h)).fr ((Fr.refl (fun _ => False) _).alloc (.cells #[.bool false, .int .i64 0, .int .i64 0, .int .i64 0] 41)) (fun h => h))
  have HX0 := hide (DmAt.new2 (W := (w.alloc (.cells #[.bool false, .int .i64 0, .int .i64 0, .int .i64 0] 41)).alloc (.cells #[.bool true, .int .i64 1, .int .i64 (md + 1), .int .i64 v, .int .i64 t, .int .i64 bb, .bool won] 45)) (n := w.heap.size + 1 + 1) (by simp))
  go_enter Try.func16, Try.ntmps16
  go_wp2_with (go_at_call 29; refine (unhide HC _ (((m.al _).al _).al _)).mono ?_; rintro e w1 ⟨rfl, hM, hF⟩; unfold dnV; dsimp only; have hx := HX0.out.fr hF (show ¬ (w.heap.size + 1 + 1 = b ∨ w.heap.size + 1 + 1 = g ∨ w.heap.size + 1 + 1 = h) by omega); have hr := HR0.out.fr hF (show ¬ (w.heap.size = b ∨ w.heap.size = g ∨ w.heap.size = h) by omega); obtain ⟨⟨x0, x1, x2, x3⟩, u0, u1, u2, u3⟩ := hx.cs; obtain ⟨⟨r0, r1, r2, r3⟩, s0, s1, s2, s3⟩ := hr.cs; have hl1 := lt_of_blk hx; have hl2 := lt_of_blk hr; have HF := hide hF)
  have hr2 := (hr.fr (dm_fr w1 (w.heap.size + 1 + 1) y) (show ¬ w.heap.size = w.heap.size + 1 + 1 by omega)).set y
  have hM2 := (hM.fr (dm_fr w1 (w.heap.size + 1 + 1) y) (by omega) (by omega) (by omega)).fr (dm_fr _ w.heap.size y) (by omega) (by omega) (by omega)
  have hF2 := (((((Fr.refl (fun k => k = b ∨ k = g ∨ k = h) w).alloc _).alloc _).alloc _).trans HF.out (fun _ _ h => h) (fun _ _ h => h)).trans ((dm_fr w1 (w.heap.size + 1 + 1) y).trans (dm_fr _ w.heap.size y) (T := fun k => w.heap.size ≤ k) (fun _ _ h => by omega) (fun _ _ h => by omega)) (T := fun k => k = b ∨ k = g ∨ k = h) (fun _ _ h => h) (fun i hi e => by omega)
  exact bodyPost_ret (results_dm2 rfl _ _ w.heap.size y rfl hr2) rfl ⟨rfl, hM2, hF2⟩

set_option maxHeartbeats 4000000 in
theorem mstep_steal {w : World} {b g h S : Nat} {q q' : Mq} {y : Dn} (m : IsM w b g h S q) {k : Nat} (hk : k < 8) (md v t bb : Int) (won : Bool) (hmd : 0 ≤ md ∧ md ≤ 6) (hth : q.th k = ⟨true, 2, md, v, t, bb, won⟩)
    (hc : ∀ W, IsM W b g h S q → Calls Try.prog 30 #[.pointer (some ⟨b, 0, none⟩), .int .i64 (k : Int), .agg #[.bool true, .int .i64 2, .int .i64 (md + 1), .int .i64 v, .int .i64 t, .int .i64 bb, .bool won]] W (AM W b g h S q' y)) :
    Calls Try.prog 16 #[.pointer (some ⟨b, 0, none⟩), .int .i64 (k : Int)] w fun e w' => e = .returned (.tuple #[dnV y, .int .i64 0]) ∧ IsM w' b g h S q' ∧ FrM b g h w w' := by
  obtain ⟨t0, t1, t2, t3, t4, t5, t6⟩ := m.ct hk rfl
  rw [hth] at t0 t1 t2 t3 t4 t5 t6
  have hk' : (k : Int) < 8 := by omega
  have HC := hide hc
  clear hc hth
  obtain ⟨m0, m1⟩ := hmd
  have c3 := m.c3
  have hlth := m.lth
  have hltb := m.ltb
  have hltg := m.ltg
  have HR0 := hide (((DmAt.new w).fr ((Fr.refl (fun _ => False) _).alloc (.cells #[.bool true, .int .i64 2, .int .i64 (md + 1), .int .i64 v, .int .i64 t, .int .i64 bb, .bool won] 45)) (fun h => h)).fr ((Fr.refl (fun _ => False) _).alloc (.cells #[.bool false, .int .i64 0, .int .i64 0, .int .i64 0] 41)) (fun h => h))
  have HX0 := hide (DmAt.new2 (W := (w.alloc (.cells #[.bool false, .int .i64 0, .int .i64 0, .int .i64 0] 41)).alloc (.cells #[.bool true, .int .i64 2, .int .i64 (md + 1), .int .i64 v, .int .i64 t, .int .i64 bb, .bool won] 45)) (n := w.heap.size + 1 + 1) (by simp))
  go_enter Try.func16, Try.ntmps16
  go_wp2_with (go_at_call 30; refine (unhide HC _ (((m.al _).al _).al _)).mono ?_; rintro e w1 ⟨rfl, hM, hF⟩; unfold dnV; dsimp only; have hx := HX0.out.fr hF (show ¬ (w.heap.size + 1 + 1 = b ∨ w.heap.size + 1 + 1 = g ∨ w.heap.size + 1 + 1 = h) by omega); have hr := HR0.out.fr hF (show ¬ (w.heap.size = b ∨ w.heap.size = g ∨ w.heap.size = h) by omega); obtain ⟨⟨x0, x1, x2, x3⟩, u0, u1, u2, u3⟩ := hx.cs; obtain ⟨⟨r0, r1, r2, r3⟩, s0, s1, s2, s3⟩ := hr.cs; have hl1 := lt_of_blk hx; have hl2 := lt_of_blk hr; have HF := hide hF)
  have hr2 := (hr.fr (dm_fr w1 (w.heap.size + 1 + 1) y) (show ¬ w.heap.size = w.heap.size + 1 + 1 by omega)).set y
  have hM2 := (hM.fr (dm_fr w1 (w.heap.size + 1 + 1) y) (by omega) (by omega) (by omega)).fr (dm_fr _ w.heap.size y) (by omega) (by omega) (by omega)
  have hF2 := (((((Fr.refl (fun k => k = b ∨ k = g ∨ k = h) w).alloc _).alloc _).alloc _).trans HF.out (fun _ _ h => h) (fun _ _ h => h)).trans ((dm_fr w1 (w.heap.size + 1 + 1) y).trans (dm_fr _ w.heap.size y) (T := fun k => w.heap.size ≤ k) (fun _ _ h => by omega) (fun _ _ h => by omega)) (T := fun k => k = b ∨ k = g ∨ k = h) (fun _ _ h => h) (fun i hi e => by omega)
  exact bodyPost_ret (results_dm2 rfl _ _ w.heap.size y rfl hr2) rfl ⟨rfl, hM2, hF2⟩

end Go.Proofs.Ytingpopcdihclaa
