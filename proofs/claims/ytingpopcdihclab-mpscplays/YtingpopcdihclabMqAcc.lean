/-
  What each access of a queue does.
-/
import Derived.Test.YtingpopcdihclabMqMem
import Derived.Deep.RegionHeld3
namespace Go.Proofs.Ytingpopcdihclab
open Go.RowKit
set_option linter.unusedVariables false
set_option maxRecDepth 8192

/-- what an access leaves: q', and tells: y -/
def AQ (w : World) (lo b : Nat) (I : List Nat) (q' : Qu) (y : Qn) (e : Ending) (w' : World) : Prop := e = .returned (qnV y) ∧ IsQ w' lo b q' ∧ FrI b I w w'

theorem ptr_same (a : Nat) (w : World) : (binOp .eql 59 (.pointer (some ⟨a, 0, none⟩)) (.pointer (some ⟨a, 0, none⟩))).run Try.prog w = .ok (.bool true) w := by
  obtain ⟨j, hj⟩ : ∃ j, Try.prog.info? 61 = some j := ⟨_, rfl⟩
  exact run_eql_ptr_same w ⟨a, 0, none⟩ Try.underlying59 hj

theorem ptr_other {w : World} {a c : Nat} (hn : a ≠ c) {ca cc : Array Value} {ta tc : TypeId} (ha : w.heap[a]? = some (.cells ca ta (0, 0))) (hc : w.heap[c]? = some (.cells cc tc (0, 0))) :
    (binOp .eql 59 (.pointer (some ⟨a, 0, none⟩)) (.pointer (some ⟨c, 0, none⟩))).run Try.prog w = .ok (.bool false) w := by
  obtain ⟨j, hj, hs⟩ : ∃ j, Try.prog.info? 61 = some j ∧ j.size ≠ 0 := by
    have e : (Try.prog.info? 61).map (fun i => i.size) = some 2 := by kernel_rfl
    obtain ⟨j, h1, h2⟩ := Option.map_eq_some_iff.1 e
    exact ⟨j, h1, by omega⟩
  exact run_eql_ptr_other (a := ⟨a, 0, none⟩) (b := ⟨c, 0, none⟩) w Try.underlying59 hj hs (fun e => hn (congrArg Addr.block e)) ha hc

set_option maxHeartbeats 1000000 in
theorem put1 {w : World} {lo b : Nat} {q : Qu} (h : IsQ w lo b q) {k o : Nat} (hk : k < 8) (ho : Hid (o = 3 + k * 3)) {x : Nat} (hr : q.th k = ⟨1, some x, none⟩) (hx : x ∈ q.ids) :
    Calls Try.prog 23 #[.pointer (some ⟨b, 0, none⟩), .pointer (some ⟨b, o, none⟩)] w (AQ w lo b q.ids ((q.nxt x none).set k ⟨2, some x, none⟩) Qn.none) := by
  have f0 := h.free o
  have f1 := h.freen hx 1
  obtain ⟨c0, c1, c2⟩ := h.ct hk (unhide ho)
  rw [hr] at c0 c1
  simp only [pO] at c0 c1
  have n1 := h.cn hx
  have hlt := h.lt
  have hltx := h.ltn hx
  have hne : ¬ x = b := h.ne hx
  have hne' : ¬ b = x := fun e => hne e.symm
  go_enter Try.func23, Try.ntmps23
  go_wp2
  have hD := ((h.snx hx none).spc hk (unhide ho) 2).al (.cells #[.bool false, .bool false, .int .i64 0, .int .i64 0] 33)
  have hN := QnAt.new2 (W := (w.setCell ⟨x, 1, none⟩ (.pointer none)).setCell ⟨b, o, none⟩ (.int .i64 2)) (n := w.heap.size) (by simp)
  rw [show ((q.nxt x none).th k) = ⟨1, some x, none⟩ from hr] at hD
  exact bodyPost_ret (results_qn rfl _ _ w.heap.size Qn.none rfl hN) rfl ⟨rfl, hD, (((Fr.refl (fun k => k = b ∨ k ∈ q.ids) w).setAt x 1 _ (.inr (.inr hx))).setAt b o _ (.inr (.inl rfl))).alloc _⟩

set_option maxHeartbeats 1000000 in
theorem put2 {w : World} {lo b : Nat} {q : Qu} (h : IsQ w lo b q) {k o : Nat} (hk : k < 8) (ho : Hid (o = 3 + k * 3)) {x : Nat} (hr : q.th k = ⟨2, some x, none⟩) :
    Calls Try.prog 23 #[.pointer (some ⟨b, 0, none⟩), .pointer (some ⟨b, o, none⟩)] w (AQ w lo b q.ids ((q.whead x).set k ⟨3, some x, some q.head⟩) Qn.none) := by
  have f0 := h.free o
  have f1 := h.free 0
  have f2 := h.free (o + 2)
  have c := h.c0
  obtain ⟨c0, c1, c2⟩ := h.ct hk (unhide ho)
  rw [hr] at c0 c1 c2
  simp only [pO] at c0 c1 c2
  have hlt := h.lt
  have ho0 : ¬ o = 0 := by have := unhide ho; omega
  go_enter Try.func23, Try.ntmps23
  go_wp2
  go_region
  all_goals
    go_wp2
    have hD := (((h.sprev hk (unhide ho) (some q.head)).shead x).spc hk (unhide ho) 3).al (.cells #[.bool false, .bool false, .int .i64 0, .int .i64 0] 33)
    have hN := QnAt.new2 (W := ((w.setCell ⟨b, o + 2, none⟩ (.pointer (some ⟨q.head, 0, none⟩))).setCell ⟨b, 0, none⟩ (.pointer (some ⟨x, 0, none⟩))).setCell ⟨b, o, none⟩ (.int .i64 3)) (n := w.heap.size) (by simp)
    have e : (((q.set k { q.th k with prev := some q.head }).whead x).set k { ((q.set k { q.th k with prev := some q.head }).whead x).th k with pc := 3 }) = (q.whead x).set k ⟨3, some x, some q.head⟩ := by
      have e1 : ((q.set k { q.th k with prev := some q.head }).whead x).th k = ⟨2, some x, some q.head⟩ := by show (q.set k { q.th k with prev := some q.head }).th k = _; rw [qset_th, hr]
      rw [e1]
      show ((q.whead x).set k { q.th k with prev := some q.head }).set k ⟨3, some x, some q.head⟩ = _
      rw [qset_set]
    rw [e] at hD
    exact bodyPost_ret (results_qn rfl _ _ w.heap.size Qn.none rfl hN) rfl ⟨rfl, hD.same rfl, (((((Fr.refl (fun k => k = b ∨ k ∈ q.ids) w).setAt b (o + 2) _ (.inr (.inl rfl))).setAt b 0 _ (.inr (.inl rfl))).setAt b o _ (.inr (.inl rfl))).alloc _).drew⟩

set_option maxHeartbeats 1000000 in
theorem put3 {w : World} {lo b : Nat} {q : Qu} (h : IsQ w lo b q) {k o : Nat} (hk : k < 8) (ho : Hid (o = 3 + k * 3)) {x p : Nat} (hr : q.th k = ⟨3, some x, some p⟩) (hx : x ∈ q.ids) (hp : p ∈ q.ids) :
    Calls Try.prog 23 #[.pointer (some ⟨b, 0, none⟩), .pointer (some ⟨b, o, none⟩)] w (AQ w lo b q.ids ((q.nxt p (some x)).set k Rq.zero) ⟨true, false, q.v x, 0⟩) := by
  have f1 := h.freen hp 1
  obtain ⟨c0, c1, c2⟩ := h.ct hk (unhide ho)
  rw [hr] at c0 c1 c2
  simp only [pO] at c0 c1 c2
  have n0 := h.cv hx
  have n1 := h.cn hp
  have hlt := h.lt
  have hltx := h.ltn hx
  have hltp := h.ltn hp
  have hne : ¬ p = b := h.ne hp
  have hne' : ¬ b = p := fun e => hne e.symm
  go_enter Try.func23, Try.ntmps23
  go_wp2
  go_region
  all_goals
    go_wp2_with (go_at_call 28; refine (over_calls (((h.snx hp (some x)).al (.cells #[.bool false, .bool false, .int .i64 0, .int .i64 0] 33)).drew) hk ho _ _ _ _).mono ?_; rintro e w1 ⟨rfl, hD, hF⟩; have hq := QnAt.fr (b := w.heap.size) (x := Qn.none) (QnAt.drew (QnAt.new2 (n := w.heap.size) (by simp))) hF (show ¬ w.heap.size = b by omega); obtain ⟨⟨q0, q1, q2, q3⟩, z0, z1, z2, z3⟩ := hq.cs)
    have hX := hD.fr (qn_fr w1 w.heap.size ⟨true, false, q.v x, 0⟩) (show ¬ b = w.heap.size by omega) (fun y hy e => by have := h.ltn hy; omega)
    exact bodyPost_ret (results_qn rfl _ _ w.heap.size ⟨true, false, q.v x, 0⟩ rfl (hq.set ⟨true, false, q.v x, 0⟩)) rfl ⟨rfl, hX, ((((((Fr.refl (fun k => k = b ∨ k ∈ q.ids) w).setAt p 1 _ (.inr (.inr hp))).alloc _).drew).trans hF (fun _ _ h => h) (fun _ _ h => .inl h))).trans (qn_fr w1 w.heap.size ⟨true, false, q.v x, 0⟩) (fun _ _ h => h) (fun i hi e => by omega)⟩

set_option maxHeartbeats 1000000 in
theorem take1 {w : World} {lo b : Nat} {q : Qu} (h : IsQ w lo b q) (hr : q.th 0 = ⟨1, none, none⟩) (ht : q.tail ∈ q.ids) :
    Calls Try.prog 22 #[.pointer (some ⟨b, 0, none⟩), .pointer (some ⟨b, 3, none⟩)] w (AQ w lo b q.ids (q.set 0 ⟨2, q.nx q.tail, none⟩) Qn.none) := by
  have f0 := h.free 3
  have f1 := h.free 4
  obtain ⟨c0, c1, c2⟩ := h.ct (k := 0) (o := 3) (by omega) rfl
  rw [hr] at c0 c1
  simp only [pO] at c1
  have g1 := h.c1
  have n1 := h.cn ht
  have hlt := h.lt
  have hltx := h.ltn ht
  have hD := h.srun (k := 0) (o := 3) (by omega) rfl ⟨2, q.nx q.tail, none⟩
  obtain ⟨y, hy⟩ : ∃ y, q.nx q.tail = y := ⟨_, rfl⟩
  rw [hy] at n1 hD ⊢
  clear hy
  have hE := ((h.snode (k := 0) (o := 3) (by omega) rfl y).spc (k := 0) (o := 3) (by omega) rfl 2).al (.cells #[.bool false, .bool false, .int .i64 0, .int .i64 0] 33)
  rw [qset_th, qset_set, hr] at hE
  have HE := hide hE
  clear hE hD
  cases y
  all_goals
    simp only [pO] at n1 HE
    go_enter Try.func22, Try.ntmps22
    go_wp2
    refine bodyPost_ret (results_qn rfl _ _ w.heap.size Qn.none rfl (QnAt.new2 (n := w.heap.size) (by simp))) rfl ⟨rfl, unhide HE, (((Fr.refl (fun k => k = b ∨ k ∈ q.ids) w).setAt b 4 _ (.inr (.inl rfl))).setAt b 3 _ (.inr (.inl rfl))).alloc _⟩

set_option maxHeartbeats 1000000 in
theorem take2 {w : World} {lo b : Nat} {q : Qu} (h : IsQ w lo b q) {x : Nat} (hr : q.th 0 = ⟨2, some x, none⟩) (hx : x ∈ q.ids) :
    Calls Try.prog 22 #[.pointer (some ⟨b, 0, none⟩), .pointer (some ⟨b, 3, none⟩)] w (AQ w lo b q.ids ((q.wtail x).set 0 Rq.zero) ⟨true, true, q.v x, 0⟩) := by
  have f1 := h.free 1
  obtain ⟨c0, c1, c2⟩ := h.ct (k := 0) (o := 3) (by omega) rfl
  rw [hr] at c0 c1
  simp only [pO] at c1
  have g1 := h.c1
  have n0 := h.cv hx
  have hlt := h.lt
  have hltx := h.ltn hx
  have hne : ¬ x = b := h.ne hx
  have hne' : ¬ b = x := fun e => hne e.symm
  go_enter Try.func22, Try.ntmps22
  go_wp2_with (go_at_call 28; refine (over_calls ((h.stail x).al (.cells #[.bool false, .bool false, .int .i64 0, .int .i64 0] 33)) (k := 0) (by omega) (hide rfl) _ _ _ _).mono ?_; rintro e w1 ⟨rfl, hD, hF⟩; have hq := QnAt.fr (b := w.heap.size) (x := Qn.none) (QnAt.new2 (n := w.heap.size) (by simp)) hF (show ¬ w.heap.size = b by omega); obtain ⟨⟨q0, q1, q2, q3⟩, z0, z1, z2, z3⟩ := hq.cs)
  have hX := hD.fr (qn_fr w1 w.heap.size ⟨true, true, q.v x, 0⟩) (show ¬ b = w.heap.size by omega) (fun y hy e => by have := h.ltn hy; omega)
  exact bodyPost_ret (results_qn rfl _ _ w.heap.size ⟨true, true, q.v x, 0⟩ rfl (hq.set ⟨true, true, q.v x, 0⟩)) rfl ⟨rfl, hX, ((((Fr.refl (fun k => k = b ∨ k ∈ q.ids) w).setAt b 1 _ (.inr (.inl rfl))).alloc _).trans hF (fun _ _ h => h) (fun _ _ h => .inl h)).trans (qn_fr w1 w.heap.size ⟨true, true, q.v x, 0⟩) (fun _ _ h => h) (fun i hi e => by omega)⟩

set_option maxHeartbeats 1000000 in
theorem take3 {w : World} {lo b : Nat} {q : Qu} (h : IsQ w lo b q) (hr : q.th 0 = ⟨2, none, none⟩) (hh : q.head ∈ q.ids) (ht : q.tail ∈ q.ids) :
    Calls Try.prog 22 #[.pointer (some ⟨b, 0, none⟩), .pointer (some ⟨b, 3, none⟩)] w (AQ w lo b q.ids (q.set 0 Rq.zero) ⟨true, true, 0, if q.head = q.tail then 8 else 14⟩) := by
  obtain ⟨c0, c1, c2⟩ := h.ct (k := 0) (o := 3) (by omega) rfl
  rw [hr] at c0 c1
  simp only [pO] at c1
  have g0 := h.c0
  have g1 := h.c1
  have hlt := h.lt
  obtain ⟨E, hE⟩ : ∃ E : Int, (if q.head = q.tail then (8 : Int) else 14) = E := ⟨_, rfl⟩
  rw [hE]
  by_cases hc : q.head = q.tail
  · rw [if_pos hc] at hE
    rw [hc] at g0
    have hE0 := fun W => ptr_same q.tail W
    clear hc
    subst hE
    go_enter Try.func22, Try.ntmps22
    go_wp2
    go_quiet (fail)
    go_wp2_with (go_at_call 28; refine (over_calls ((h.al (.cells #[.bool false, .bool false, .int .i64 0, .int .i64 0] 33)).drewN _) (k := 0) (by omega) (hide rfl) _ _ _ _).mono ?_; rintro e w1 ⟨rfl, hD, hF⟩; have hq := QnAt.fr (b := w.heap.size) (x := Qn.none) ((QnAt.new2 (n := w.heap.size) (by simp)).drewN _) hF (show ¬ w.heap.size = b by omega); obtain ⟨⟨q0, q1, q2, q3⟩, z0, z1, z2, z3⟩ := hq.cs)
    have hX := hD.fr (qn_fr w1 w.heap.size ⟨true, true, 0, 8⟩) (show ¬ b = w.heap.size by omega) (fun y hy e => by have := h.ltn hy; omega)
    exact bodyPost_ret (results_qn rfl _ _ w.heap.size ⟨true, true, 0, 8⟩ rfl (hq.set ⟨true, true, 0, 8⟩)) rfl ⟨rfl, hX, ((((Fr.refl (fun k => k = b ∨ k ∈ q.ids) w).alloc _).drewN _).trans hF (fun _ _ h => h) (fun _ _ h => .inl h)).trans (qn_fr w1 w.heap.size ⟨true, true, 0, 8⟩) (fun _ _ h => h) (fun i hi e => by omega)⟩
  · rw [if_neg hc] at hE
    subst hE
    have hE0 := fun (n : Nat) => ptr_other hc (((h.al (.cells #[.bool false, .bool false, .int .i64 0, .int .i64 0] 33)).drewN n).nd _ hh).2 (((h.al (.cells #[.bool false, .bool false, .int .i64 0, .int .i64 0] 33)).drewN n).nd _ ht).2
    go_enter Try.func22, Try.ntmps22
    go_wp2
    go_quiet (fail)
    go_wp2_with (go_at_call 28; refine (over_calls ((h.al (.cells #[.bool false, .bool false, .int .i64 0, .int .i64 0] 33)).drewN _) (k := 0) (by omega) (hide rfl) _ _ _ _).mono ?_; rintro e w1 ⟨rfl, hD, hF⟩; have hq := QnAt.fr (b := w.heap.size) (x := Qn.none) ((QnAt.new2 (n := w.heap.size) (by simp)).drewN _) hF (show ¬ w.heap.size = b by omega); obtain ⟨⟨q0, q1, q2, q3⟩, z0, z1, z2, z3⟩ := hq.cs)
    have hX := hD.fr (qn_fr w1 w.heap.size ⟨true, true, 0, 14⟩) (show ¬ b = w.heap.size by omega) (fun y hy e => by have := h.ltn hy; omega)
    exact bodyPost_ret (results_qn rfl _ _ w.heap.size ⟨true, true, 0, 14⟩ rfl (hq.set ⟨true, true, 0, 14⟩)) rfl ⟨rfl, hX, ((((Fr.refl (fun k => k = b ∨ k ∈ q.ids) w).alloc _).drewN _).trans hF (fun _ _ h => h) (fun _ _ h => .inl h)).trans (qn_fr w1 w.heap.size ⟨true, true, 0, 14⟩) (fun _ _ h => h) (fun i hi e => by omega)⟩

end Go.Proofs.Ytingpopcdihclab
