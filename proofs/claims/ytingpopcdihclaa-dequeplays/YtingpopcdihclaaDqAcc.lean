/-
  What each access of a deque does.
-/
import Derived.Test.YtingpopcdihclaaDqMem
import Derived.Deep.RegionHeld3
namespace Go.Proofs.Ytingpopcdihclaa
open Go.RowKit
set_option linter.unusedVariables false
set_option maxRecDepth 8192

/-- what an access leaves: d', and tells: y -/
def AP (w : World) (b g S : Nat) (d' : Dq) (y : Dn) (e : Ending) (w' : World) : Prop := e = .returned (dnV y) ∧ IsD w' b g S d' ∧ FrD b g w w'

/-- the last lines of each: what the other call told lies in the result's own block -/
theorem tail_dn {w W1 w1 : World} {b g S : Nat} {d' : Dq} (hD : IsD w1 b g S d') (hb : b < w.heap.size) (hg : g < w.heap.size) (h0 : FrD b g w W1) (hF : Fr (fun k => k = b) W1 w1) (y : Dn) :
    IsD ((((w1.setCell ⟨w.heap.size, 0, none⟩ (.bool y.over)).setCell ⟨w.heap.size, 1, none⟩ (.int .i64 y.op)).setCell ⟨w.heap.size, 2, none⟩ (.int .i64 y.v)).setCell ⟨w.heap.size, 3, none⟩ (.int .i64 y.err)) b g S d' ∧
    FrD b g w ((((w1.setCell ⟨w.heap.size, 0, none⟩ (.bool y.over)).setCell ⟨w.heap.size, 1, none⟩ (.int .i64 y.op)).setCell ⟨w.heap.size, 2, none⟩ (.int .i64 y.v)).setCell ⟨w.heap.size, 3, none⟩ (.int .i64 y.err)) :=
  ⟨hD.fr (dn_fr w1 w.heap.size y) (by omega) (by omega), (h0.trans hF (fun _ _ h => h) (fun _ _ h => .inl h)).trans (dn_fr w1 w.heap.size y) (fun _ _ h => h) (fun i hi e => by omega)⟩

theorem quiet_same {P : Program} {f : FuncId} {args : Array Value} {w : World} {n : Nat} {v : Value}
    (h : Calls P f args (w.drewN n) fun e w' => e = .returned v ∧ w.drewN n = w') : Calls P f args (w.drewN n) fun e w'' => e = .returned v ∧ ∃ m, w'' = w.drewN m :=
  h.mono fun _ _ ⟨he, hm⟩ => ⟨he, n, hm.symm⟩

set_option maxHeartbeats 400000 in
theorem dsize {w : World} {b g S : Nat} {d : Dq} (h : IsD w b g S d) :
    Calls Try.prog 12 #[.pointer (some ⟨b, 0, none⟩)] w fun e w' => e = .returned (.int .i64 (S : Int)) ∧ w = w' := by
  have c2 := h.c2
  go_enter Try.func12, Try.ntmps12
  go_wp2
  go_ret
  exact ⟨rfl, rfl⟩

theorem DnAt.new2 {W : World} {n : Nat} (hs : W.heap.size = n) : DnAt (W.alloc (.cells #[.bool false, .int .i64 0, .int .i64 0, .int .i64 0] 38)) n Dn.none := by subst hs; exact blk_new W _

theorem Fr.weak {b g : Nat} {w w' : World} (h : Fr (fun k => k = b) w w') : FrD b g w w' := h.mono (fun _ _ h => .inl h)

theorem DnAt.new3 {W : World} {n : Nat} (hs : W.heap.size = n) (m : Nat) : DnAt ((W.alloc (.cells #[.bool false, .int .i64 0, .int .i64 0, .int .i64 0] 38)).drewN m) n Dn.none := DnAt.new2 hs

set_option maxHeartbeats 1000000 in
theorem a1 {w : World} {b g S : Nat} {d : Dq} (h : IsD w b g S d) {k o : Nat} (hk : k < 8) (ho : Hid (o = 3 + k * 5)) :
    Calls Try.prog 33 #[.pointer (some ⟨b, 0, none⟩), .pointer (some ⟨b, o, none⟩)] w (AP w b g S (d.set k { d.th k with b := d.bot, pc := 2 }) Dn.none) := by
  have c0 := h.c0
  have c1 := h.c1
  have f0 := h.free 0
  have f1 := h.free 1
  have fv := h.free (o + 1)
  have ft := h.free (o + 2)
  have fb := h.free (o + 3)
  have fw := h.free (o + 4)
  obtain ⟨_, cv, ct, cb, cw⟩ := h.ct hk (unhide ho)
  have hlt := h.lt
  have hltg := h.ltg
  have hne := h.ne
  have hne' : ¬ g = b := fun e => hne e.symm
  have ho0 : ¬ o = 0 := by have := unhide ho; omega
  go_enter Try.func33, Try.ntmps33
  go_wp2_with (go_at_call 37; refine (then_calls ((h.sb hk (unhide ho) d.bot).al _) hk ho 2 (hide rfl)).mono ?_; rintro e w1 ⟨rfl, hD, hF⟩; have hq := DnAt.fr (b := w.heap.size) (x := Dn.none) (DnAt.new2 (n := w.heap.size) (by simp)) hF (show ¬ w.heap.size = b by omega); obtain ⟨⟨q0, q1, q2, q3⟩, z0, z1, z2, z3⟩ := hq.cs)
  obtain ⟨hX, hY⟩ := tail_dn (w := w) hD hlt hltg (((Fr.refl (fun k => k = b ∨ k = g) w).setAt b (o + 3) _ (.inr (.inl rfl))).alloc _) hF Dn.none
  exact bodyPost_ret (results_dn rfl _ _ w.heap.size Dn.none rfl (hq.set Dn.none)) rfl ⟨rfl, (by first | exact hX | (simp only [set_set] at hX; exact hX) | (simp only [set_set, set_th] at hX; exact hX)), hY⟩

set_option maxHeartbeats 1000000 in
theorem a5 {w : World} {b g S : Nat} {d : Dq} (h : IsD w b g S d) {k o : Nat} (hk : k < 8) (ho : Hid (o = 3 + k * 5)) (hb : -1152921504606846976 ≤ d.bot ∧ d.bot ≤ 1152921504606846976) :
    Calls Try.prog 34 #[.pointer (some ⟨b, 0, none⟩), .pointer (some ⟨b, o, none⟩)] w (AP w b g S (d.set k { d.th k with b := d.bot - 1, pc := 6 }) Dn.none) := by
  have c0 := h.c0
  have c1 := h.c1
  have f0 := h.free 0
  have f1 := h.free 1
  have fv := h.free (o + 1)
  have ft := h.free (o + 2)
  have fb := h.free (o + 3)
  have fw := h.free (o + 4)
  obtain ⟨_, cv, ct, cb, cw⟩ := h.ct hk (unhide ho)
  have hlt := h.lt
  have hltg := h.ltg
  have hne := h.ne
  have hne' : ¬ g = b := fun e => hne e.symm
  have ho0 : ¬ o = 0 := by have := unhide ho; omega
  obtain ⟨hb0, hb1⟩ := hb
  go_enter Try.func34, Try.ntmps34
  go_wp2_with (go_at_call 37; refine (then_calls ((h.sb hk (unhide ho) (d.bot - 1)).al _) hk ho 6 (hide rfl)).mono ?_; rintro e w1 ⟨rfl, hD, hF⟩; have hq := DnAt.fr (b := w.heap.size) (x := Dn.none) (DnAt.new2 (n := w.heap.size) (by simp)) hF (show ¬ w.heap.size = b by omega); obtain ⟨⟨q0, q1, q2, q3⟩, z0, z1, z2, z3⟩ := hq.cs)
  obtain ⟨hX, hY⟩ := tail_dn (w := w) hD hlt hltg (((Fr.refl (fun k => k = b ∨ k = g) w).setAt b (o + 3) _ (.inr (.inl rfl))).alloc _) hF Dn.none
  exact bodyPost_ret (results_dn rfl _ _ w.heap.size Dn.none rfl (hq.set Dn.none)) rfl ⟨rfl, (by first | exact hX | (simp only [set_set] at hX; exact hX) | (simp only [set_set, set_th] at hX; exact hX)), hY⟩

set_option maxHeartbeats 1000000 in
theorem a6 {w : World} {b g S : Nat} {d : Dq} (h : IsD w b g S d) {k o : Nat} (hk : k < 8) (ho : Hid (o = 3 + k * 5)) :
    Calls Try.prog 39 #[.pointer (some ⟨b, 0, none⟩), .pointer (some ⟨b, o, none⟩)] w (AP w b g S ((d.wbot (d.th k).b).set k { d.th k with pc := 7 }) Dn.none) := by
  have c0 := h.c0
  have c1 := h.c1
  have f0 := h.free 0
  have f1 := h.free 1
  have fv := h.free (o + 1)
  have ft := h.free (o + 2)
  have fb := h.free (o + 3)
  have fw := h.free (o + 4)
  obtain ⟨_, cv, ct, cb, cw⟩ := h.ct hk (unhide ho)
  have hlt := h.lt
  have hltg := h.ltg
  have hne := h.ne
  have hne' : ¬ g = b := fun e => hne e.symm
  have ho0 : ¬ o = 0 := by have := unhide ho; omega
  go_enter Try.func39, Try.ntmps39
  go_wp2_with (go_at_call 37; refine (then_calls ((h.sbot (d.th k).b).al _) hk ho 7 (hide rfl)).mono ?_; rintro e w1 ⟨rfl, hD, hF⟩; have hq := DnAt.fr (b := w.heap.size) (x := Dn.none) (DnAt.new2 (n := w.heap.size) (by simp)) hF (show ¬ w.heap.size = b by omega); obtain ⟨⟨q0, q1, q2, q3⟩, z0, z1, z2, z3⟩ := hq.cs)
  obtain ⟨hX, hY⟩ := tail_dn (w := w) hD hlt hltg (((Fr.refl (fun k => k = b ∨ k = g) w).setAt b (1) _ (.inr (.inl rfl))).alloc _) hF Dn.none
  exact bodyPost_ret (results_dn rfl _ _ w.heap.size Dn.none rfl (hq.set Dn.none)) rfl ⟨rfl, (by first | exact hX | (simp only [set_set] at hX; exact hX) | (simp only [set_set, set_th] at hX; exact hX)), hY⟩

set_option maxHeartbeats 1000000 in
theorem a11 {w : World} {b g S : Nat} {d : Dq} (h : IsD w b g S d) {k o : Nat} (hk : k < 8) (ho : Hid (o = 3 + k * 5)) :
    Calls Try.prog 35 #[.pointer (some ⟨b, 0, none⟩), .pointer (some ⟨b, o, none⟩)] w (AP w b g S (d.set k { d.th k with t := d.top, pc := 12 }) Dn.none) := by
  have c0 := h.c0
  have c1 := h.c1
  have f0 := h.free 0
  have f1 := h.free 1
  have fv := h.free (o + 1)
  have ft := h.free (o + 2)
  have fb := h.free (o + 3)
  have fw := h.free (o + 4)
  obtain ⟨_, cv, ct, cb, cw⟩ := h.ct hk (unhide ho)
  have hlt := h.lt
  have hltg := h.ltg
  have hne := h.ne
  have hne' : ¬ g = b := fun e => hne e.symm
  have ho0 : ¬ o = 0 := by have := unhide ho; omega
  go_enter Try.func35, Try.ntmps35
  go_wp2_with (go_at_call 37; refine (then_calls ((h.st hk (unhide ho) d.top).al _) hk ho 12 (hide rfl)).mono ?_; rintro e w1 ⟨rfl, hD, hF⟩; have hq := DnAt.fr (b := w.heap.size) (x := Dn.none) (DnAt.new2 (n := w.heap.size) (by simp)) hF (show ¬ w.heap.size = b by omega); obtain ⟨⟨q0, q1, q2, q3⟩, z0, z1, z2, z3⟩ := hq.cs)
  obtain ⟨hX, hY⟩ := tail_dn (w := w) hD hlt hltg (((Fr.refl (fun k => k = b ∨ k = g) w).setAt b (o + 2) _ (.inr (.inl rfl))).alloc _) hF Dn.none
  exact bodyPost_ret (results_dn rfl _ _ w.heap.size Dn.none rfl (hq.set Dn.none)) rfl ⟨rfl, (by first | exact hX | (simp only [set_set] at hX; exact hX) | (simp only [set_set, set_th] at hX; exact hX)), hY⟩

set_option maxHeartbeats 1000000 in
theorem a4 {w : World} {b g S : Nat} {d : Dq} (h : IsD w b g S d) {k o : Nat} (hk : k < 8) (ho : Hid (o = 3 + k * 5)) (hb : -1152921504606846976 ≤ (d.th k).b ∧ (d.th k).b ≤ 1152921504606846976) :
    Calls Try.prog 45 #[.pointer (some ⟨b, 0, none⟩), .pointer (some ⟨b, o, none⟩)] w (AP w b g S ((d.wbot ((d.th k).b + 1)).set k Rn.zero) (⟨true, 0, (d.th k).v, 0⟩)) := by
  have c0 := h.c0
  have c1 := h.c1
  have f0 := h.free 0
  have f1 := h.free 1
  have fv := h.free (o + 1)
  have ft := h.free (o + 2)
  have fb := h.free (o + 3)
  have fw := h.free (o + 4)
  obtain ⟨_, cv, ct, cb, cw⟩ := h.ct hk (unhide ho)
  have hlt := h.lt
  have hltg := h.ltg
  have hne := h.ne
  have hne' : ¬ g = b := fun e => hne e.symm
  have ho0 : ¬ o = 0 := by have := unhide ho; omega
  obtain ⟨hb0, hb1⟩ := hb
  go_enter Try.func45, Try.ntmps45
  go_wp2_with (go_at_call 41; refine (over_calls ((h.sbot ((d.th k).b + 1)).al _) hk ho 0 (d.th k).v 0).mono ?_; rintro e w1 ⟨rfl, hD, hF⟩; have hq := DnAt.fr (b := w.heap.size) (x := Dn.none) (DnAt.new2 (n := w.heap.size) (by simp)) hF (show ¬ w.heap.size = b by omega); obtain ⟨⟨q0, q1, q2, q3⟩, z0, z1, z2, z3⟩ := hq.cs)
  obtain ⟨hX, hY⟩ := tail_dn (w := w) hD hlt hltg (((Fr.refl (fun k => k = b ∨ k = g) w).setAt b (1) _ (.inr (.inl rfl))).alloc _) hF (⟨true, 0, (d.th k).v, 0⟩)
  exact bodyPost_ret (results_dn rfl _ _ w.heap.size (⟨true, 0, (d.th k).v, 0⟩) rfl (hq.set (⟨true, 0, (d.th k).v, 0⟩))) rfl ⟨rfl, hX, hY⟩

set_option maxHeartbeats 1000000 in
theorem a10y {w : World} {b g S : Nat} {d : Dq} (h : IsD w b g S d) {k o : Nat} (hk : k < 8) (ho : Hid (o = 3 + k * 5)) (hb : -1152921504606846976 ≤ (d.th k).b ∧ (d.th k).b ≤ 1152921504606846976) (hw : (d.th k).won = true) :
    Calls Try.prog 46 #[.pointer (some ⟨b, 0, none⟩), .pointer (some ⟨b, o, none⟩)] w (AP w b g S ((d.wbot ((d.th k).b + 1)).set k Rn.zero) (⟨true, 1, (d.th k).v, 0⟩)) := by
  have c0 := h.c0
  have c1 := h.c1
  have f0 := h.free 0
  have f1 := h.free 1
  have fv := h.free (o + 1)
  have ft := h.free (o + 2)
  have fb := h.free (o + 3)
  have fw := h.free (o + 4)
  obtain ⟨_, cv, ct, cb, cw⟩ := h.ct hk (unhide ho)
  have hlt := h.lt
  have hltg := h.ltg
  have hne := h.ne
  have hne' : ¬ g = b := fun e => hne e.symm
  have ho0 : ¬ o = 0 := by have := unhide ho; omega
  obtain ⟨hb0, hb1⟩ := hb
  rw [hw] at cw
  go_enter Try.func46, Try.ntmps46
  go_wp2_with (go_at_call 41; refine (over_calls ((h.sbot ((d.th k).b + 1)).al _) hk ho 1 _ 0).mono ?_; rintro e w1 ⟨rfl, hD, hF⟩; have hq := DnAt.fr (b := w.heap.size) (x := Dn.none) (DnAt.new2 (n := w.heap.size) (by simp)) hF (show ¬ w.heap.size = b by omega); obtain ⟨⟨q0, q1, q2, q3⟩, z0, z1, z2, z3⟩ := hq.cs)
  obtain ⟨hX, hY⟩ := tail_dn (w := w) hD hlt hltg (((Fr.refl (fun k => k = b ∨ k = g) w).setAt b (1) _ (.inr (.inl rfl))).alloc _) hF (⟨true, 1, (d.th k).v, 0⟩)
  exact bodyPost_ret (results_dn rfl _ _ w.heap.size (⟨true, 1, (d.th k).v, 0⟩) rfl (hq.set (⟨true, 1, (d.th k).v, 0⟩))) rfl ⟨rfl, hX, hY⟩

set_option maxHeartbeats 1000000 in
theorem a10n {w : World} {b g S : Nat} {d : Dq} (h : IsD w b g S d) {k o : Nat} (hk : k < 8) (ho : Hid (o = 3 + k * 5)) (hb : -1152921504606846976 ≤ (d.th k).b ∧ (d.th k).b ≤ 1152921504606846976) (hw : (d.th k).won = false) :
    Calls Try.prog 46 #[.pointer (some ⟨b, 0, none⟩), .pointer (some ⟨b, o, none⟩)] w (AP w b g S ((d.wbot ((d.th k).b + 1)).set k Rn.zero) (⟨true, 1, 0, 8⟩)) := by
  have c0 := h.c0
  have c1 := h.c1
  have f0 := h.free 0
  have f1 := h.free 1
  have fv := h.free (o + 1)
  have ft := h.free (o + 2)
  have fb := h.free (o + 3)
  have fw := h.free (o + 4)
  obtain ⟨_, cv, ct, cb, cw⟩ := h.ct hk (unhide ho)
  have hlt := h.lt
  have hltg := h.ltg
  have hne := h.ne
  have hne' : ¬ g = b := fun e => hne e.symm
  have ho0 : ¬ o = 0 := by have := unhide ho; omega
  obtain ⟨hb0, hb1⟩ := hb
  rw [hw] at cw
  go_enter Try.func46, Try.ntmps46
  go_wp2_with (go_at_call 41; refine (over_calls ((h.sbot ((d.th k).b + 1)).al _) hk ho 1 0 8).mono ?_; rintro e w1 ⟨rfl, hD, hF⟩; have hq := DnAt.fr (b := w.heap.size) (x := Dn.none) (DnAt.new2 (n := w.heap.size) (by simp)) hF (show ¬ w.heap.size = b by omega); obtain ⟨⟨q0, q1, q2, q3⟩, z0, z1, z2, z3⟩ := hq.cs)
  obtain ⟨hX, hY⟩ := tail_dn (w := w) hD hlt hltg (((Fr.refl (fun k => k = b ∨ k = g) w).setAt b (1) _ (.inr (.inl rfl))).alloc _) hF (⟨true, 1, 0, 8⟩)
  exact bodyPost_ret (results_dn rfl _ _ w.heap.size (⟨true, 1, 0, 8⟩) rfl (hq.set (⟨true, 1, 0, 8⟩))) rfl ⟨rfl, hX, hY⟩

set_option maxHeartbeats 1000000 in
theorem a2y {w : World} {b g S : Nat} {d : Dq} (h : IsD w b g S d) {k o : Nat} (hk : k < 8) (ho : Hid (o = 3 + k * 5)) (hb : -1152921504606846976 ≤ (d.th k).b ∧ (d.th k).b ≤ 1152921504606846976) (ht : -1152921504606846976 ≤ d.top ∧ d.top ≤ 1152921504606846976) (hI : (S : Int) ≤ (d.th k).b - d.top) :
    Calls Try.prog 38 #[.pointer (some ⟨b, 0, none⟩), .pointer (some ⟨b, o, none⟩)] w (AP w b g S (d.set k Rn.zero) (⟨true, 0, (d.th k).v, 7⟩)) := by
  have c0 := h.c0
  have c1 := h.c1
  have f0 := h.free 0
  have f1 := h.free 1
  have fv := h.free (o + 1)
  have ft := h.free (o + 2)
  have fb := h.free (o + 3)
  have fw := h.free (o + 4)
  obtain ⟨_, cv, ct, cb, cw⟩ := h.ct hk (unhide ho)
  have hlt := h.lt
  have hltg := h.ltg
  have hne := h.ne
  have hne' : ¬ g = b := fun e => hne e.symm
  have ho0 : ¬ o = 0 := by have := unhide ho; omega
  obtain ⟨hb0, hb1⟩ := hb
  obtain ⟨ht0, ht1⟩ := ht
  go_enter Try.func38, Try.ntmps38
  go_wp2
  go_quiet ((go_at_call 12; exact quiet_same (dsize ((h.al _).drewN _))))
  go_wp2_with (go_at_call 41; refine (over_calls ((h.al _).drewN _) hk ho 0 (d.th k).v 7).mono ?_; rintro e w1 ⟨rfl, hD, hF⟩; have hq := DnAt.fr (b := w.heap.size) (x := Dn.none) (DnAt.new3 (W := w) rfl _) hF (show ¬ w.heap.size = b by omega); obtain ⟨⟨q0, q1, q2, q3⟩, z0, z1, z2, z3⟩ := hq.cs)
  obtain ⟨hX, hY⟩ := tail_dn (w := w) hD hlt hltg ((((Fr.refl (fun k => k = b ∨ k = g) w)).alloc _).drewN _) hF (⟨true, 0, (d.th k).v, 7⟩)
  exact bodyPost_ret (results_dn rfl _ _ w.heap.size (⟨true, 0, (d.th k).v, 7⟩) rfl (hq.set (⟨true, 0, (d.th k).v, 7⟩))) rfl ⟨rfl, hX, hY⟩

set_option maxHeartbeats 1000000 in
theorem a2n {w : World} {b g S : Nat} {d : Dq} (h : IsD w b g S d) {k o : Nat} (hk : k < 8) (ho : Hid (o = 3 + k * 5)) (hb : -1152921504606846976 ≤ (d.th k).b ∧ (d.th k).b ≤ 1152921504606846976) (ht : -1152921504606846976 ≤ d.top ∧ d.top ≤ 1152921504606846976) (hI : (d.th k).b - d.top < (S : Int)) :
    Calls Try.prog 38 #[.pointer (some ⟨b, 0, none⟩), .pointer (some ⟨b, o, none⟩)] w (AP w b g S (d.set k { d.th k with pc := 3 }) Dn.none) := by
  have c0 := h.c0
  have c1 := h.c1
  have f0 := h.free 0
  have f1 := h.free 1
  have fv := h.free (o + 1)
  have ft := h.free (o + 2)
  have fb := h.free (o + 3)
  have fw := h.free (o + 4)
  obtain ⟨_, cv, ct, cb, cw⟩ := h.ct hk (unhide ho)
  have hlt := h.lt
  have hltg := h.ltg
  have hne := h.ne
  have hne' : ¬ g = b := fun e => hne e.symm
  have ho0 : ¬ o = 0 := by have := unhide ho; omega
  obtain ⟨hb0, hb1⟩ := hb
  obtain ⟨ht0, ht1⟩ := ht
  go_enter Try.func38, Try.ntmps38
  go_wp2
  go_quiet ((go_at_call 12; exact quiet_same (dsize ((h.al _).drewN _))))
  go_wp2_with (go_at_call 37; refine (then_calls ((h.al _).drewN _) hk ho 3 (hide rfl)).mono ?_; rintro e w1 ⟨rfl, hD, hF⟩; have hq := DnAt.fr (b := w.heap.size) (x := Dn.none) (DnAt.new3 (W := w) rfl _) hF (show ¬ w.heap.size = b by omega); obtain ⟨⟨q0, q1, q2, q3⟩, z0, z1, z2, z3⟩ := hq.cs)
  obtain ⟨hX, hY⟩ := tail_dn (w := w) hD hlt hltg ((((Fr.refl (fun k => k = b ∨ k = g) w)).alloc _).drewN _) hF Dn.none
  exact bodyPost_ret (results_dn rfl _ _ w.heap.size Dn.none rfl (hq.set Dn.none)) rfl ⟨rfl, hX, hY⟩

set_option maxHeartbeats 1000000 in
theorem a7y {w : World} {b g S : Nat} {d : Dq} (h : IsD w b g S d) {k o : Nat} (hk : k < 8) (ho : Hid (o = 3 + k * 5)) (hI : (d.th k).b < d.top) :
    Calls Try.prog 43 #[.pointer (some ⟨b, 0, none⟩), .pointer (some ⟨b, o, none⟩)] w (AP w b g S (d.set k { d.th k with t := d.top, pc := 10 }) Dn.none) := by
  have c0 := h.c0
  have c1 := h.c1
  have f0 := h.free 0
  have f1 := h.free 1
  have fv := h.free (o + 1)
  have ft := h.free (o + 2)
  have fb := h.free (o + 3)
  have fw := h.free (o + 4)
  obtain ⟨_, cv, ct, cb, cw⟩ := h.ct hk (unhide ho)
  have hlt := h.lt
  have hltg := h.ltg
  have hne := h.ne
  have hne' : ¬ g = b := fun e => hne e.symm
  have ho0 : ¬ o = 0 := by have := unhide ho; omega
  go_enter Try.func43, Try.ntmps43
  go_wp2
  go_quiet (fail)
  go_wp2_with (go_at_call 37; refine (then_calls (((h.st hk (unhide ho) d.top).al _).drewN _) hk ho 10 (hide rfl)).mono ?_; rintro e w1 ⟨rfl, hD, hF⟩; have hq := DnAt.fr (b := w.heap.size) (x := Dn.none) (DnAt.new3 (W := w.setCell ⟨b, o + 2, none⟩ (.int .i64 d.top)) (by simp) _) hF (show ¬ w.heap.size = b by omega); obtain ⟨⟨q0, q1, q2, q3⟩, z0, z1, z2, z3⟩ := hq.cs)
  obtain ⟨hX, hY⟩ := tail_dn (w := w) hD hlt hltg ((((Fr.refl (fun k => k = b ∨ k = g) w).setAt b (o + 2) _ (.inr (.inl rfl))).alloc _).drewN _) hF Dn.none
  exact bodyPost_ret (results_dn rfl _ _ w.heap.size Dn.none rfl (hq.set Dn.none)) rfl ⟨rfl, (by first | exact hX | (simp only [set_set] at hX; exact hX) | (simp only [set_set, set_th] at hX; exact hX)), hY⟩

set_option maxHeartbeats 1000000 in
theorem a7n {w : World} {b g S : Nat} {d : Dq} (h : IsD w b g S d) {k o : Nat} (hk : k < 8) (ho : Hid (o = 3 + k * 5)) (hI : d.top ≤ (d.th k).b) :
    Calls Try.prog 43 #[.pointer (some ⟨b, 0, none⟩), .pointer (some ⟨b, o, none⟩)] w (AP w b g S (d.set k { d.th k with t := d.top, pc := 8 }) Dn.none) := by
  have c0 := h.c0
  have c1 := h.c1
  have f0 := h.free 0
  have f1 := h.free 1
  have fv := h.free (o + 1)
  have ft := h.free (o + 2)
  have fb := h.free (o + 3)
  have fw := h.free (o + 4)
  obtain ⟨_, cv, ct, cb, cw⟩ := h.ct hk (unhide ho)
  have hlt := h.lt
  have hltg := h.ltg
  have hne := h.ne
  have hne' : ¬ g = b := fun e => hne e.symm
  have ho0 : ¬ o = 0 := by have := unhide ho; omega
  go_enter Try.func43, Try.ntmps43
  go_wp2
  go_quiet (fail)
  go_wp2_with (go_at_call 37; refine (then_calls (((h.st hk (unhide ho) d.top).al _).drewN _) hk ho 8 (hide rfl)).mono ?_; rintro e w1 ⟨rfl, hD, hF⟩; have hq := DnAt.fr (b := w.heap.size) (x := Dn.none) (DnAt.new3 (W := w.setCell ⟨b, o + 2, none⟩ (.int .i64 d.top)) (by simp) _) hF (show ¬ w.heap.size = b by omega); obtain ⟨⟨q0, q1, q2, q3⟩, z0, z1, z2, z3⟩ := hq.cs)
  obtain ⟨hX, hY⟩ := tail_dn (w := w) hD hlt hltg ((((Fr.refl (fun k => k = b ∨ k = g) w).setAt b (o + 2) _ (.inr (.inl rfl))).alloc _).drewN _) hF Dn.none
  exact bodyPost_ret (results_dn rfl _ _ w.heap.size Dn.none rfl (hq.set Dn.none)) rfl ⟨rfl, (by first | exact hX | (simp only [set_set] at hX; exact hX) | (simp only [set_set, set_th] at hX; exact hX)), hY⟩

set_option maxHeartbeats 1000000 in
theorem a12y {w : World} {b g S : Nat} {d : Dq} (h : IsD w b g S d) {k o : Nat} (hk : k < 8) (ho : Hid (o = 3 + k * 5)) (hI : d.bot ≤ (d.th k).t) :
    Calls Try.prog 40 #[.pointer (some ⟨b, 0, none⟩), .pointer (some ⟨b, o, none⟩)] w (AP w b g S (d.set k Rn.zero) (⟨true, 2, 0, 8⟩)) := by
  have c0 := h.c0
  have c1 := h.c1
  have f0 := h.free 0
  have f1 := h.free 1
  have fv := h.free (o + 1)
  have ft := h.free (o + 2)
  have fb := h.free (o + 3)
  have fw := h.free (o + 4)
  obtain ⟨_, cv, ct, cb, cw⟩ := h.ct hk (unhide ho)
  have hlt := h.lt
  have hltg := h.ltg
  have hne := h.ne
  have hne' : ¬ g = b := fun e => hne e.symm
  have ho0 : ¬ o = 0 := by have := unhide ho; omega
  go_enter Try.func40, Try.ntmps40
  go_wp2
  go_quiet (fail)
  go_wp2_with (go_at_call 41; refine (over_calls ((h.al _).drewN _) hk ho 2 0 8).mono ?_; rintro e w1 ⟨rfl, hD, hF⟩; have hq := DnAt.fr (b := w.heap.size) (x := Dn.none) (DnAt.new3 (W := w) rfl _) hF (show ¬ w.heap.size = b by omega); obtain ⟨⟨q0, q1, q2, q3⟩, z0, z1, z2, z3⟩ := hq.cs)
  obtain ⟨hX, hY⟩ := tail_dn (w := w) hD hlt hltg ((((Fr.refl (fun k => k = b ∨ k = g) w)).alloc _).drewN _) hF (⟨true, 2, 0, 8⟩)
  exact bodyPost_ret (results_dn rfl _ _ w.heap.size (⟨true, 2, 0, 8⟩) rfl (hq.set (⟨true, 2, 0, 8⟩))) rfl ⟨rfl, hX, hY⟩

set_option maxHeartbeats 1000000 in
theorem a12n {w : World} {b g S : Nat} {d : Dq} (h : IsD w b g S d) {k o : Nat} (hk : k < 8) (ho : Hid (o = 3 + k * 5)) (hI : (d.th k).t < d.bot) :
    Calls Try.prog 40 #[.pointer (some ⟨b, 0, none⟩), .pointer (some ⟨b, o, none⟩)] w (AP w b g S (d.set k { d.th k with pc := 13 }) Dn.none) := by
  have c0 := h.c0
  have c1 := h.c1
  have f0 := h.free 0
  have f1 := h.free 1
  have fv := h.free (o + 1)
  have ft := h.free (o + 2)
  have fb := h.free (o + 3)
  have fw := h.free (o + 4)
  obtain ⟨_, cv, ct, cb, cw⟩ := h.ct hk (unhide ho)
  have hlt := h.lt
  have hltg := h.ltg
  have hne := h.ne
  have hne' : ¬ g = b := fun e => hne e.symm
  have ho0 : ¬ o = 0 := by have := unhide ho; omega
  go_enter Try.func40, Try.ntmps40
  go_wp2
  go_quiet (fail)
  go_wp2_with (go_at_call 37; refine (then_calls ((h.al _).drewN _) hk ho 13 (hide rfl)).mono ?_; rintro e w1 ⟨rfl, hD, hF⟩; have hq := DnAt.fr (b := w.heap.size) (x := Dn.none) (DnAt.new3 (W := w) rfl _) hF (show ¬ w.heap.size = b by omega); obtain ⟨⟨q0, q1, q2, q3⟩, z0, z1, z2, z3⟩ := hq.cs)
  obtain ⟨hX, hY⟩ := tail_dn (w := w) hD hlt hltg ((((Fr.refl (fun k => k = b ∨ k = g) w)).alloc _).drewN _) hF Dn.none
  exact bodyPost_ret (results_dn rfl _ _ w.heap.size Dn.none rfl (hq.set Dn.none)) rfl ⟨rfl, hX, hY⟩

set_option maxHeartbeats 1000000 in
theorem a13 {w : World} {b g S : Nat} {d : Dq} (h : IsD w b g S d) {k o : Nat} (hk : k < 8) (ho : Hid (o = 3 + k * 5)) (hn : 0 ≤ (d.th k).t ∧ (d.th k).t ≤ 1152921504606846976) :
    Calls Try.prog 44 #[.pointer (some ⟨b, 0, none⟩), .pointer (some ⟨b, o, none⟩)] w (AP w b g S (d.set k { d.th k with v := d.pl (ix S (d.th k).t), pc := 14 }) Dn.none) := by
  have c0 := h.c0
  have c1 := h.c1
  have f0 := h.free 0
  have f1 := h.free 1
  have fv := h.free (o + 1)
  have ft := h.free (o + 2)
  have fb := h.free (o + 3)
  have fw := h.free (o + 4)
  obtain ⟨_, cv, ct, cb, cw⟩ := h.ct hk (unhide ho)
  have hlt := h.lt
  have hltg := h.ltg
  have hne := h.ne
  have hne' : ¬ g = b := fun e => hne e.symm
  have ho0 : ¬ o = 0 := by have := unhide ho; omega
  obtain ⟨hn0, hn1⟩ := hn
  obtain ⟨i, hi⟩ : ∃ i, ix S (d.th k).t = i := ⟨_, rfl⟩
  have HI := hide hi
  have hil : i < S := by rw [← hi]; exact ix_lt h.pos _
  have cg := h.cg hil
  have fg := h.freeg i
  rw [hi]
  clear hi
  go_enter Try.func44, Try.ntmps44
  go_wp2_with (first | (go_at_call 31; refine (place_calls (h.al _) (d.th k).t ⟨hn0, hn1⟩ HI).mono ?_; rintro e w2 ⟨rfl, nq0, rfl⟩) | (go_at_call 37; refine (then_calls ((((h.al _).drewN _).sv hk (unhide ho) (d.pl i))) hk ho 14 (hide rfl)).mono ?_; rintro e w1 ⟨rfl, hD, hF⟩; have hq := DnAt.fr (b := w.heap.size) (x := Dn.none) (DnAt.fr (DnAt.new2 (W := w) rfl) (((Fr.refl (fun k => k = b) _).drewN _).setAt b (o + 1) _ (.inr rfl)) (show ¬ w.heap.size = b by omega)) hF (show ¬ w.heap.size = b by omega); obtain ⟨⟨q0, q1, q2, q3⟩, z0, z1, z2, z3⟩ := hq.cs))
  obtain ⟨hX, hY⟩ := tail_dn (w := w) hD hlt hltg (((((Fr.refl (fun k => k = b ∨ k = g) w)).alloc _).drewN _).setAt b (o + 1) _ (.inr (.inl rfl))) hF Dn.none
  exact bodyPost_ret (results_dn rfl _ _ w.heap.size Dn.none rfl (hq.set Dn.none)) rfl ⟨rfl, (by first | exact hX | (simp only [set_set] at hX; exact hX) | (simp only [set_set, set_th] at hX; exact hX)), hY⟩

set_option maxHeartbeats 1000000 in
theorem a8y {w : World} {b g S : Nat} {d : Dq} (h : IsD w b g S d) {k o : Nat} (hk : k < 8) (ho : Hid (o = 3 + k * 5)) (hn : 0 ≤ (d.th k).b ∧ (d.th k).b ≤ 1152921504606846976) (hI : (d.th k).t < (d.th k).b) :
    Calls Try.prog 47 #[.pointer (some ⟨b, 0, none⟩), .pointer (some ⟨b, o, none⟩)] w (AP w b g S (d.set k Rn.zero) (⟨true, 1, d.pl (ix S (d.th k).b), 0⟩)) := by
  have c0 := h.c0
  have c1 := h.c1
  have f0 := h.free 0
  have f1 := h.free 1
  have fv := h.free (o + 1)
  have ft := h.free (o + 2)
  have fb := h.free (o + 3)
  have fw := h.free (o + 4)
  obtain ⟨_, cv, ct, cb, cw⟩ := h.ct hk (unhide ho)
  have hlt := h.lt
  have hltg := h.ltg
  have hne := h.ne
  have hne' : ¬ g = b := fun e => hne e.symm
  have ho0 : ¬ o = 0 := by have := unhide ho; omega
  obtain ⟨hn0, hn1⟩ := hn
  obtain ⟨i, hi⟩ : ∃ i, ix S (d.th k).b = i := ⟨_, rfl⟩
  have HI := hide hi
  have hil : i < S := by rw [← hi]; exact ix_lt h.pos _
  have cg := h.cg hil
  have fg := h.freeg i
  rw [hi]
  clear hi
  go_enter Try.func47, Try.ntmps47
  go_wp2_with (go_at_call 31; refine (place_calls (h.al _) (d.th k).b ⟨hn0, hn1⟩ HI).mono ?_; rintro e w2 ⟨rfl, nq0, rfl⟩)
  go_quiet (fail)
  go_wp2_with (go_at_call 41; refine (over_calls ((((h.al _).drewN _).sv hk (unhide ho) (d.pl i)).drewN _) hk ho 1 (d.pl i) 0).mono ?_; rintro e w1 ⟨rfl, hD, hF⟩; have hq := DnAt.fr (b := w.heap.size) (x := Dn.none) (DnAt.fr (DnAt.new2 (W := w) rfl) ((((Fr.refl (fun k => k = b) _).drewN _).setAt b (o + 1) _ (.inr rfl)).drewN _) (show ¬ w.heap.size = b by omega)) hF (show ¬ w.heap.size = b by omega); obtain ⟨⟨q0, q1, q2, q3⟩, z0, z1, z2, z3⟩ := hq.cs)
  obtain ⟨hX, hY⟩ := tail_dn (w := w) hD hlt hltg ((((((Fr.refl (fun k => k = b ∨ k = g) w)).alloc _).drewN _).setAt b (o + 1) _ (.inr (.inl rfl))).drewN _) hF (⟨true, 1, d.pl i, 0⟩)
  exact bodyPost_ret (results_dn rfl _ _ w.heap.size (⟨true, 1, d.pl i, 0⟩) rfl (hq.set (⟨true, 1, d.pl i, 0⟩))) rfl ⟨rfl, (by first | exact hX | (simp only [set_set] at hX; exact hX) | (simp only [set_set, set_th] at hX; exact hX)), hY⟩

set_option maxHeartbeats 1000000 in
theorem a8n {w : World} {b g S : Nat} {d : Dq} (h : IsD w b g S d) {k o : Nat} (hk : k < 8) (ho : Hid (o = 3 + k * 5)) (hn : 0 ≤ (d.th k).b ∧ (d.th k).b ≤ 1152921504606846976) (hI : (d.th k).b ≤ (d.th k).t) :
    Calls Try.prog 47 #[.pointer (some ⟨b, 0, none⟩), .pointer (some ⟨b, o, none⟩)] w (AP w b g S (d.set k { d.th k with v := d.pl (ix S (d.th k).b), pc := 9 }) Dn.none) := by
  have c0 := h.c0
  have c1 := h.c1
  have f0 := h.free 0
  have f1 := h.free 1
  have fv := h.free (o + 1)
  have ft := h.free (o + 2)
  have fb := h.free (o + 3)
  have fw := h.free (o + 4)
  obtain ⟨_, cv, ct, cb, cw⟩ := h.ct hk (unhide ho)
  have hlt := h.lt
  have hltg := h.ltg
  have hne := h.ne
  have hne' : ¬ g = b := fun e => hne e.symm
  have ho0 : ¬ o = 0 := by have := unhide ho; omega
  obtain ⟨hn0, hn1⟩ := hn
  obtain ⟨i, hi⟩ : ∃ i, ix S (d.th k).b = i := ⟨_, rfl⟩
  have HI := hide hi
  have hil : i < S := by rw [← hi]; exact ix_lt h.pos _
  have cg := h.cg hil
  have fg := h.freeg i
  rw [hi]
  clear hi
  go_enter Try.func47, Try.ntmps47
  go_wp2_with (go_at_call 31; refine (place_calls (h.al _) (d.th k).b ⟨hn0, hn1⟩ HI).mono ?_; rintro e w2 ⟨rfl, nq0, rfl⟩)
  go_quiet (fail)
  go_wp2_with (go_at_call 37; refine (then_calls ((((h.al _).drewN _).sv hk (unhide ho) (d.pl i)).drewN _) hk ho 9 (hide rfl)).mono ?_; rintro e w1 ⟨rfl, hD, hF⟩; have hq := DnAt.fr (b := w.heap.size) (x := Dn.none) (DnAt.fr (DnAt.new2 (W := w) rfl) ((((Fr.refl (fun k => k = b) _).drewN _).setAt b (o + 1) _ (.inr rfl)).drewN _) (show ¬ w.heap.size = b by omega)) hF (show ¬ w.heap.size = b by omega); obtain ⟨⟨q0, q1, q2, q3⟩, z0, z1, z2, z3⟩ := hq.cs)
  obtain ⟨hX, hY⟩ := tail_dn (w := w) hD hlt hltg ((((((Fr.refl (fun k => k = b ∨ k = g) w)).alloc _).drewN _).setAt b (o + 1) _ (.inr (.inl rfl))).drewN _) hF Dn.none
  exact bodyPost_ret (results_dn rfl _ _ w.heap.size Dn.none rfl (hq.set Dn.none)) rfl ⟨rfl, (by first | exact hX | (simp only [set_set] at hX; exact hX) | (simp only [set_set, set_th] at hX; exact hX)), hY⟩

set_option maxHeartbeats 1000000 in
theorem a9y {w : World} {b g S : Nat} {d : Dq} (h : IsD w b g S d) {k o : Nat} (hk : k < 8) (ho : Hid (o = 3 + k * 5)) (ht : -1152921504606846976 ≤ (d.th k).t ∧ (d.th k).t ≤ 1152921504606846976) (hn : d.top = (d.th k).t) :
    Calls Try.prog 49 #[.pointer (some ⟨b, 0, none⟩), .pointer (some ⟨b, o, none⟩)] w (AP w b g S ((d.wtop ((d.th k).t + 1)).set k { d.th k with won := true, pc := 10 }) Dn.none) := by
  have c0 := h.c0
  have c1 := h.c1
  have f0 := h.free 0
  have f1 := h.free 1
  have fv := h.free (o + 1)
  have ft := h.free (o + 2)
  have fb := h.free (o + 3)
  have fw := h.free (o + 4)
  obtain ⟨_, cv, ct, cb, cw⟩ := h.ct hk (unhide ho)
  have hlt := h.lt
  have hltg := h.ltg
  have hne := h.ne
  have hne' : ¬ g = b := fun e => hne e.symm
  have ho0 : ¬ o = 0 := by have := unhide ho; omega
  obtain ⟨ht0, ht1⟩ := ht
  go_enter Try.func49, Try.ntmps49
  go_wp2_with (first | (go_at_call 50; refine (move_yes (h.al _) (d.th k).t hn ⟨ht0, ht1⟩).mono ?_; rintro e w2 ⟨rfl, hD1, hF1⟩; have m1 := (hD1.ct hk (unhide ho)).2.1; have m4 := (hD1.ct hk (unhide ho)).2.2.2.2; have n4 := hD1.free (o + 4); have hq1 := DnAt.fr (b := w.heap.size) (x := Dn.none) (DnAt.new2 (W := w) rfl) hF1 (show ¬ w.heap.size = b by omega); have hz1 := hD1.lt) | (go_at_call 37; refine (then_calls (hD1.sw hk (unhide ho) true) hk ho 10 (hide rfl)).mono ?_; rintro e w1 ⟨rfl, hD, hF⟩; have hq := DnAt.fr (b := w.heap.size) (x := Dn.none) (hq1.fr ((Fr.refl (fun k => k = b) _).setAt b (o + 4) _ (.inr rfl)) (show ¬ w.heap.size = b by omega)) hF (show ¬ w.heap.size = b by omega); obtain ⟨⟨q0, q1, q2, q3⟩, z0, z1, z2, z3⟩ := hq.cs))
  obtain ⟨hX, hY⟩ := tail_dn (w := w) hD hlt hltg (((((Fr.refl (fun k => k = b ∨ k = g) w)).alloc _).trans hF1 (fun _ _ h => h) (fun _ _ h => .inl h)).setAt b (o + 4) _ (.inr (.inl rfl))) hF Dn.none
  exact bodyPost_ret (results_dn rfl _ _ w.heap.size Dn.none rfl (hq.set Dn.none)) rfl ⟨rfl, (by first | exact hX | (simp only [set_set] at hX; exact hX) | (simp only [set_set, set_th] at hX; exact hX)), hY⟩

set_option maxHeartbeats 1000000 in
theorem a9n {w : World} {b g S : Nat} {d : Dq} (h : IsD w b g S d) {k o : Nat} (hk : k < 8) (ho : Hid (o = 3 + k * 5)) (hn : ¬ d.top = (d.th k).t) :
    Calls Try.prog 49 #[.pointer (some ⟨b, 0, none⟩), .pointer (some ⟨b, o, none⟩)] w (AP w b g S ((d).set k { d.th k with won := false, pc := 10 }) Dn.none) := by
  have c0 := h.c0
  have c1 := h.c1
  have f0 := h.free 0
  have f1 := h.free 1
  have fv := h.free (o + 1)
  have ft := h.free (o + 2)
  have fb := h.free (o + 3)
  have fw := h.free (o + 4)
  obtain ⟨_, cv, ct, cb, cw⟩ := h.ct hk (unhide ho)
  have hlt := h.lt
  have hltg := h.ltg
  have hne := h.ne
  have hne' : ¬ g = b := fun e => hne e.symm
  have ho0 : ¬ o = 0 := by have := unhide ho; omega
  go_enter Try.func49, Try.ntmps49
  go_wp2_with (first | (go_at_call 50; refine (move_no (h.al _) (d.th k).t hn).mono ?_; rintro e w2 ⟨rfl, hD1, hF1⟩; have m1 := (hD1.ct hk (unhide ho)).2.1; have m4 := (hD1.ct hk (unhide ho)).2.2.2.2; have n4 := hD1.free (o + 4); have hq1 := DnAt.fr (b := w.heap.size) (x := Dn.none) (DnAt.new2 (W := w) rfl) hF1 (show ¬ w.heap.size = b by omega); have hz1 := hD1.lt) | (go_at_call 37; refine (then_calls (hD1.sw hk (unhide ho) false) hk ho 10 (hide rfl)).mono ?_; rintro e w1 ⟨rfl, hD, hF⟩; have hq := DnAt.fr (b := w.heap.size) (x := Dn.none) (hq1.fr ((Fr.refl (fun k => k = b) _).setAt b (o + 4) _ (.inr rfl)) (show ¬ w.heap.size = b by omega)) hF (show ¬ w.heap.size = b by omega); obtain ⟨⟨q0, q1, q2, q3⟩, z0, z1, z2, z3⟩ := hq.cs))
  obtain ⟨hX, hY⟩ := tail_dn (w := w) hD hlt hltg (((((Fr.refl (fun k => k = b ∨ k = g) w)).alloc _).trans hF1 (fun _ _ h => h) (fun _ _ h => .inl h)).setAt b (o + 4) _ (.inr (.inl rfl))) hF Dn.none
  exact bodyPost_ret (results_dn rfl _ _ w.heap.size Dn.none rfl (hq.set Dn.none)) rfl ⟨rfl, (by first | exact hX | (simp only [set_set] at hX; exact hX) | (simp only [set_set, set_th] at hX; exact hX)), hY⟩

set_option maxHeartbeats 1000000 in
theorem a14y {w : World} {b g S : Nat} {d : Dq} (h : IsD w b g S d) {k o : Nat} (hk : k < 8) (ho : Hid (o = 3 + k * 5)) (ht : -1152921504606846976 ≤ (d.th k).t ∧ (d.th k).t ≤ 1152921504606846976) (hn : d.top = (d.th k).t) :
    Calls Try.prog 48 #[.pointer (some ⟨b, 0, none⟩), .pointer (some ⟨b, o, none⟩)] w (AP w b g S ((d.wtop ((d.th k).t + 1)).set k Rn.zero) (⟨true, 2, (d.th k).v, 0⟩)) := by
  have c0 := h.c0
  have c1 := h.c1
  have f0 := h.free 0
  have f1 := h.free 1
  have fv := h.free (o + 1)
  have ft := h.free (o + 2)
  have fb := h.free (o + 3)
  have fw := h.free (o + 4)
  obtain ⟨_, cv, ct, cb, cw⟩ := h.ct hk (unhide ho)
  have hlt := h.lt
  have hltg := h.ltg
  have hne := h.ne
  have hne' : ¬ g = b := fun e => hne e.symm
  have ho0 : ¬ o = 0 := by have := unhide ho; omega
  obtain ⟨ht0, ht1⟩ := ht
  go_enter Try.func48, Try.ntmps48
  go_wp2_with (first | (go_at_call 50; refine (move_yes (h.al _) (d.th k).t hn ⟨ht0, ht1⟩).mono ?_; rintro e w2 ⟨rfl, hD1, hF1⟩; have m1 := (hD1.ct hk (unhide ho)).2.1; have m4 := (hD1.ct hk (unhide ho)).2.2.2.2; have n4 := hD1.free (o + 4); have hq1 := DnAt.fr (b := w.heap.size) (x := Dn.none) (DnAt.new2 (W := w) rfl) hF1 (show ¬ w.heap.size = b by omega); have hz1 := hD1.lt) | (go_at_call 41; refine (over_calls (hD1) hk ho 2 _ 0).mono ?_; rintro e w1 ⟨rfl, hD, hF⟩; have hq := DnAt.fr (b := w.heap.size) (x := Dn.none) hq1 hF (show ¬ w.heap.size = b by omega); obtain ⟨⟨q0, q1, q2, q3⟩, z0, z1, z2, z3⟩ := hq.cs))
  obtain ⟨hX, hY⟩ := tail_dn (w := w) hD hlt hltg ((((Fr.refl (fun k => k = b ∨ k = g) w)).alloc _).trans hF1 (fun _ _ h => h) (fun _ _ h => .inl h)) hF (⟨true, 2, (d.th k).v, 0⟩)
  exact bodyPost_ret (results_dn rfl _ _ w.heap.size (⟨true, 2, (d.th k).v, 0⟩) rfl (hq.set (⟨true, 2, (d.th k).v, 0⟩))) rfl ⟨rfl, hX, hY⟩

set_option maxHeartbeats 1000000 in
theorem a14n {w : World} {b g S : Nat} {d : Dq} (h : IsD w b g S d) {k o : Nat} (hk : k < 8) (ho : Hid (o = 3 + k * 5)) (hn : ¬ d.top = (d.th k).t) :
    Calls Try.prog 48 #[.pointer (some ⟨b, 0, none⟩), .pointer (some ⟨b, o, none⟩)] w (AP w b g S ((d).set k Rn.zero) (⟨true, 2, 0, 17⟩)) := by
  have c0 := h.c0
  have c1 := h.c1
  have f0 := h.free 0
  have f1 := h.free 1
  have fv := h.free (o + 1)
  have ft := h.free (o + 2)
  have fb := h.free (o + 3)
  have fw := h.free (o + 4)
  obtain ⟨_, cv, ct, cb, cw⟩ := h.ct hk (unhide ho)
  have hlt := h.lt
  have hltg := h.ltg
  have hne := h.ne
  have hne' : ¬ g = b := fun e => hne e.symm
  have ho0 : ¬ o = 0 := by have := unhide ho; omega
  go_enter Try.func48, Try.ntmps48
  go_wp2_with (first | (go_at_call 50; refine (move_no (h.al _) (d.th k).t hn).mono ?_; rintro e w2 ⟨rfl, hD1, hF1⟩; have m1 := (hD1.ct hk (unhide ho)).2.1; have m4 := (hD1.ct hk (unhide ho)).2.2.2.2; have n4 := hD1.free (o + 4); have hq1 := DnAt.fr (b := w.heap.size) (x := Dn.none) (DnAt.new2 (W := w) rfl) hF1 (show ¬ w.heap.size = b by omega); have hz1 := hD1.lt) | (go_at_call 41; refine (over_calls (hD1) hk ho 2 0 17).mono ?_; rintro e w1 ⟨rfl, hD, hF⟩; have hq := DnAt.fr (b := w.heap.size) (x := Dn.none) hq1 hF (show ¬ w.heap.size = b by omega); obtain ⟨⟨q0, q1, q2, q3⟩, z0, z1, z2, z3⟩ := hq.cs))
  obtain ⟨hX, hY⟩ := tail_dn (w := w) hD hlt hltg ((((Fr.refl (fun k => k = b ∨ k = g) w)).alloc _).trans hF1 (fun _ _ h => h) (fun _ _ h => .inl h)) hF (⟨true, 2, 0, 17⟩)
  exact bodyPost_ret (results_dn rfl _ _ w.heap.size (⟨true, 2, 0, 17⟩) rfl (hq.set (⟨true, 2, 0, 17⟩))) rfl ⟨rfl, hX, hY⟩

set_option maxHeartbeats 1000000 in
theorem a3 {w : World} {b g S : Nat} {d : Dq} (h : IsD w b g S d) {k o : Nat} (hk : k < 8) (ho : Hid (o = 3 + k * 5)) (hn : 0 ≤ (d.th k).b ∧ (d.th k).b ≤ 1152921504606846976) :
    Calls Try.prog 42 #[.pointer (some ⟨b, 0, none⟩), .pointer (some ⟨b, o, none⟩)] w (AP w b g S ((d.lay (ix S (d.th k).b) (d.th k).v).set k { d.th k with pc := 4 }) Dn.none) := by
  have c0 := h.c0
  have c1 := h.c1
  have f0 := h.free 0
  have f1 := h.free 1
  have fv := h.free (o + 1)
  have ft := h.free (o + 2)
  have fb := h.free (o + 3)
  have fw := h.free (o + 4)
  obtain ⟨_, cv, ct, cb, cw⟩ := h.ct hk (unhide ho)
  have hlt := h.lt
  have hltg := h.ltg
  have hne := h.ne
  have hne' : ¬ g = b := fun e => hne e.symm
  have ho0 : ¬ o = 0 := by have := unhide ho; omega
  obtain ⟨hn0, hn1⟩ := hn
  obtain ⟨i, hi⟩ : ∃ i, ix S (d.th k).b = i := ⟨_, rfl⟩
  have HI := hide hi
  have hil : i < S := by rw [← hi]; exact ix_lt h.pos _
  have cg := h.cg hil
  have fg := h.freeg i
  rw [hi]
  clear hi
  go_enter Try.func42, Try.ntmps42
  go_wp2
  go_region_with (go_at_call 31; refine (place_calls ((h.al _).drewN _) (d.th k).b ⟨hn0, hn1⟩ HI).mono ?_; rintro e w2 ⟨rfl, nq0, rfl⟩)
  all_goals
   go_wp2_with (go_at_call 37; refine (then_calls ((((h.al _).drewN _).slay i (d.th k).v)) hk ho 4 (hide rfl)).mono ?_; rintro e w1 ⟨rfl, hD, hF⟩; have hq := DnAt.fr (b := w.heap.size) (x := Dn.none) (DnAt.fr (DnAt.new2 (W := w) rfl) (((Fr.refl (fun k => k = g) _).drewN _).setAt g i _ (.inr rfl)) (show ¬ w.heap.size = g by omega)) hF (show ¬ w.heap.size = b by omega); obtain ⟨⟨q0, q1, q2, q3⟩, z0, z1, z2, z3⟩ := hq.cs)
   obtain ⟨hX, hY⟩ := tail_dn (w := w) hD hlt hltg (((((Fr.refl (fun k => k = b ∨ k = g) w)).alloc _).drewN _).setAt g i _ (.inr (.inr rfl))) hF Dn.none
   exact bodyPost_ret (results_dn rfl _ _ w.heap.size Dn.none rfl (hq.set Dn.none)) rfl ⟨rfl, hX, hY⟩

end Go.Proofs.Ytingpopcdihclaa
