/-
  What the document's queue's Step and Begin do.
-/
import Derived.Test.YtingpopcdihclabMrAcc
namespace Go.Proofs.Ytingpopcdihclab
open Go.RowKit
set_option linter.unusedVariables false
set_option maxRecDepth 8192

theorem qm_fr (w : World) (b : Nat) (y : Qn) : Fr (fun k => k = b) w ((((w.setCell ⟨b, 0, none⟩ (.bool y.over)).setCell ⟨b, 1, none⟩ (.bool y.take)).setCell ⟨b, 2, none⟩ (.int .i64 y.v)).setCell ⟨b, 3, none⟩ (.int .i64 y.err)) := qn_fr w b y

variable {w : World} {lo b h gv gn cv cn : Nat} {R : Rf}

set_option maxHeartbeats 1000000 in
theorem rstep_out (m : IsR w lo b h gv gn cv cn R) {n : Int} (hn : ¬ (0 ≤ n ∧ n < 8)) :
    Calls Try.prog 15 #[.pointer (some ⟨b, 0, none⟩), .int .i64 n] w fun e w' => e = .returned (.tuple #[qnV Qn.none, .int .i64 1]) ∧ IsR w' lo b h gv gn cv cn R ∧ FrR4 b h gv gn w w' := by
  have h2 : n < 0 ∨ (0 ≤ n ∧ 8 ≤ n) := by omega
  clear hn
  rcases h2 with h0 | ⟨h0, h1⟩
  all_goals
    go_enter Try.func15, Try.ntmps15
    go_wp2
    exact bodyPost_ret (results_qm2 rfl _ _ w.heap.size Qn.none rfl (QmAt.new w)) rfl ⟨rfl, m.al _, (Fr.refl _ w).alloc _⟩

set_option maxHeartbeats 1000000 in
theorem rstep_idle (m : IsR w lo b h gv gn cv cn R) {k : Nat} (hk : k < 8) (hp : (R.th k).on = false) :
    Calls Try.prog 15 #[.pointer (some ⟨b, 0, none⟩), .int .i64 (k : Int)] w fun e w' => e = .returned (.tuple #[qnV Qn.none, .int .i64 13]) ∧ IsR w' lo b h gv gn cv cn R ∧ FrR4 b h gv gn w w' := by
  have c4 := m.c4
  obtain ⟨t0, t1, t2, t3⟩ := m.ct hk
  rw [hp] at t0
  have hk' : (k : Int) < 8 := by omega
  have hb := m.ltb
  have hh := m.lth
  generalize (R.th k).made = a1 at *
  generalize (R.th k).node = a2 at *
  generalize (R.th k).prev = a3 at *
  go_enter Try.func15, Try.ntmps15
  go_wp2
  exact bodyPost_ret (results_qm2 rfl _ _ w.heap.size Qn.none rfl ((QmAt.new w).fr ((Fr.refl (fun _ => False) _).alloc _) (fun h => h))) rfl ⟨rfl, (m.al _).al _, ((Fr.refl _ w).alloc _).alloc _⟩

set_option maxHeartbeats 2000000 in
theorem rstep_put (m : IsR w lo b h gv gn cv cn R) {k made node prev : Nat} (hk : k < 8) (hk0 : 0 < k) (hp : R.th k = ⟨true, made, node, prev⟩) (hm : made ≤ 10) {R' : Rf} {y : Qn}
    (HP : Hid (∀ w1, IsR w1 lo b h gv gn cv cn R → Calls Try.prog 24 #[.pointer (some ⟨b, 0, none⟩), .int .i64 (k : Int), .agg #[.bool true, .int .i64 ((made : Int) + 1), .int .i64 (node : Int), .int .i64 (prev : Int)]] w1 (AR w1 lo b h gv gn cv cn R' y))) :
    Calls Try.prog 15 #[.pointer (some ⟨b, 0, none⟩), .int .i64 (k : Int)] w fun e w' => e = .returned (.tuple #[qnV y, .int .i64 0]) ∧ IsR w' lo b h gv gn cv cn R' ∧ FrR4 b h gv gn w w' := by
  have c4 := m.c4
  obtain ⟨t0, t1, t2, t3⟩ := m.ct hk
  rw [hp] at t0 t1 t2 t3
  dsimp only at t0 t1 t2 t3
  have hk' : (k : Int) < 8 := by omega
  have hk2 : (0 : Int) < (k : Int) := by omega
  have hb := m.ltb
  have hh := m.lth
  have hgv := m.rv.lt
  have hgn := m.rn.lt
  go_enter Try.func15, Try.ntmps15
  go_wp2_with (go_at_call 24; refine (unhide HP _ ((m.al (.cells #[.bool false, .bool false, .int .i64 0, .int .i64 0] 36)).al (.cells #[.bool true, .int .i64 ((made : Int) + 1), .int .i64 (node : Int), .int .i64 (prev : Int)] 41))).mono ?_; rintro e w1 ⟨rfl, hD, hF⟩; have hq := QmAt.fr (b := w.heap.size) (x := Qn.none) ((QmAt.new w).fr ((Fr.refl (fun _ => False) _).alloc (.cells #[.bool true, .int .i64 ((made : Int) + 1), .int .i64 (node : Int), .int .i64 (prev : Int)] 41)) (fun h => h)) hF (show ¬ (w.heap.size = b ∨ w.heap.size = h ∨ w.heap.size = gv ∨ w.heap.size = gn) by omega); obtain ⟨⟨q0, q1, q2, q3⟩, z0, z1, z2, z3⟩ := hq.cs; have hqz := lt_of_blk hq; unfold qnV; dsimp only)
  have hqs := (hq.set y).fr ((Fr.refl (fun _ => False) _).alloc (.cells #[.bool y.over, .bool y.take, .int .i64 y.v, .int .i64 y.err] 36)) (fun h => h)
  exact bodyPost_ret (results_qm2 rfl _ _ w.heap.size y rfl hqs) rfl ⟨rfl, (hD.fr (qm_fr w1 w.heap.size y) (by omega) (by omega) (by omega) (by omega)).al _,
    ((((((Fr.refl (fun k => k = b ∨ k = h ∨ k = gv ∨ k = gn) w).alloc _).alloc _).trans hF (fun _ _ h => h) (fun _ _ h => h))).trans (qm_fr w1 w.heap.size y) (fun _ _ h => h) (fun i hi e => by omega)).alloc _⟩

set_option maxHeartbeats 2000000 in
theorem rstep_take (m : IsR w lo b h gv gn cv cn R) {made node prev : Nat} (hp : R.th 0 = ⟨true, made, node, prev⟩) (hm : made ≤ 10) {R' : Rf} {y : Qn}
    (HP : Hid (∀ w1, IsR w1 lo b h gv gn cv cn R → Calls Try.prog 25 #[.pointer (some ⟨b, 0, none⟩), .agg #[.bool true, .int .i64 ((made : Int) + 1), .int .i64 (node : Int), .int .i64 (prev : Int)]] w1 (AR w1 lo b h gv gn cv cn R' y))) :
    Calls Try.prog 15 #[.pointer (some ⟨b, 0, none⟩), .int .i64 ((0 : Nat) : Int)] w fun e w' => e = .returned (.tuple #[qnV y, .int .i64 0]) ∧ IsR w' lo b h gv gn cv cn R' ∧ FrR4 b h gv gn w w' := by
  have c4 := m.c4
  obtain ⟨t0, t1, t2, t3⟩ := m.ct (k := 0) (by omega)
  rw [hp] at t0 t1 t2 t3
  dsimp only at t0 t1 t2 t3
  have hb := m.ltb
  have hh := m.lth
  have hgv := m.rv.lt
  have hgn := m.rn.lt
  go_enter Try.func15, Try.ntmps15
  go_wp2_with (go_at_call 25; refine (unhide HP _ ((m.al (.cells #[.bool false, .bool false, .int .i64 0, .int .i64 0] 36)).al (.cells #[.bool true, .int .i64 ((made : Int) + 1), .int .i64 (node : Int), .int .i64 (prev : Int)] 41))).mono ?_; rintro e w1 ⟨rfl, hD, hF⟩; have hq := QmAt.fr (b := w.heap.size) (x := Qn.none) ((QmAt.new w).fr ((Fr.refl (fun _ => False) _).alloc (.cells #[.bool true, .int .i64 ((made : Int) + 1), .int .i64 (node : Int), .int .i64 (prev : Int)] 41)) (fun h => h)) hF (show ¬ (w.heap.size = b ∨ w.heap.size = h ∨ w.heap.size = gv ∨ w.heap.size = gn) by omega); obtain ⟨⟨q0, q1, q2, q3⟩, z0, z1, z2, z3⟩ := hq.cs; have hqz := lt_of_blk hq; unfold qnV; dsimp only)
  have hqs := (hq.set y).fr ((Fr.refl (fun _ => False) _).alloc (.cells #[.bool y.over, .bool y.take, .int .i64 y.v, .int .i64 y.err] 36)) (fun h => h)
  exact bodyPost_ret (results_qm2 rfl _ _ w.heap.size y rfl hqs) rfl ⟨rfl, (hD.fr (qm_fr w1 w.heap.size y) (by omega) (by omega) (by omega) (by omega)).al _,
    ((((((Fr.refl (fun k => k = b ∨ k = h ∨ k = gv ∨ k = gn) w).alloc _).alloc _).trans hF (fun _ _ h => h) (fun _ _ h => h))).trans (qm_fr w1 w.heap.size y) (fun _ _ h => h) (fun i hi e => by omega)).alloc _⟩

set_option maxHeartbeats 1000000 in
theorem rbegin_out (m : IsR w lo b h gv gn cv cn R) {n : Int} (hn : ¬ (0 ≤ n ∧ n < 8)) (v : Int) :
    Calls Try.prog 13 #[.pointer (some ⟨b, 0, none⟩), .int .i64 n, .int .i64 v] w fun e w' => e = .returned (.int .i64 1) ∧ w = w' := by
  have h2 : n < 0 ∨ (0 ≤ n ∧ 8 ≤ n) := by omega
  clear hn
  rcases h2 with h0 | ⟨h0, h1⟩
  all_goals
    go_enter Try.func13, Try.ntmps13
    go_wp2
    go_ret
    exact ⟨rfl, rfl⟩

set_option maxHeartbeats 1000000 in
theorem rbegin_busy (m : IsR w lo b h gv gn cv cn R) {k : Nat} (hk : k < 8) (hp : (R.th k).on = true) (v : Int) :
    Calls Try.prog 13 #[.pointer (some ⟨b, 0, none⟩), .int .i64 (k : Int), .int .i64 v] w fun e w' => e = .returned (.int .i64 14) ∧ w = w' := by
  have c4 := m.c4
  obtain ⟨t0, _⟩ := m.ct hk
  rw [hp] at t0
  have hk' : (k : Int) < 8 := by omega
  go_enter Try.func13, Try.ntmps13
  go_wp2
  go_ret
  exact ⟨rfl, rfl⟩

set_option maxHeartbeats 1000000 in
theorem rbegin_long (m : IsR w lo b h gv gn cv cn R) {k : Nat} (hk : k < 8) (hk0 : 0 < k) (hp : (R.th k).on = false) (hl : R.V.length = 65537) (v : Int) :
    Calls Try.prog 13 #[.pointer (some ⟨b, 0, none⟩), .int .i64 (k : Int), .int .i64 v] w fun e w' => e = .returned (.int .i64 3) ∧ w = w' := by
  have c0 := m.c0
  rw [hl] at c0
  have c4 := m.c4
  obtain ⟨t0, _⟩ := m.ct hk
  rw [hp] at t0
  have hk' : (k : Int) < 8 := by omega
  have hk2 : (0 : Int) < (k : Int) := by omega
  clear hl
  go_enter Try.func13, Try.ntmps13
  go_wp2
  go_ret
  exact ⟨rfl, rfl⟩

set_option maxHeartbeats 1000000 in
theorem rbegin_take (m : IsR w lo b h gv gn cv cn R) (hp : R.th 0 = Rt.zero) (v : Int) :
    Calls Try.prog 13 #[.pointer (some ⟨b, 0, none⟩), .int .i64 ((0 : Nat) : Int), .int .i64 v] w fun e w' => e = .returned (.int .i64 0) ∧ IsR w' lo b h gv gn cv cn (R.set 0 ⟨true, 0, 0, 0⟩) ∧ FrR4 b h gv gn w w' := by
  have c4 := m.c4
  obtain ⟨t0, t1, t2, t3⟩ := m.ct (k := 0) (by omega)
  rw [hp] at t0 t1 t2 t3
  have f0 := m.fh 0
  have f1 := m.fh 1
  have f2 := m.fh 2
  have f3 := m.fh 3
  have hb := m.ltb
  have hh := m.lth
  have HE := hide (m.sth (k := 0) (by omega) ⟨true, 0, 0, 0⟩)
  go_enter Try.func13, Try.ntmps13
  go_wp2
  go_region
  all_goals
    go_wp2
    go_ret
    exact ⟨rfl, IsR.dr (((unhide HE).al _)), Fr.drew ((((((Fr.refl (fun k => k = b ∨ k = h ∨ k = gv ∨ k = gn) w).setAt h 0 _ (.inr (.inr (.inl rfl)))).setAt h 1 _ (.inr (.inr (.inl rfl)))).setAt h 2 _ (.inr (.inr (.inl rfl)))).setAt h 3 _ (.inr (.inr (.inl rfl)))).alloc _)⟩

end Go.Proofs.Ytingpopcdihclab
