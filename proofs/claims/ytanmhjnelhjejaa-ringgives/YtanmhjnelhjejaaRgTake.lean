/-
  What Take and Pop of a ring of numbers do.
-/
import Derived.Test.YtanmhjnelhjejaaRgCalls
namespace Go.Proofs.Ytanmhjnelhjejaa
open Go.RowKit
set_option linter.unusedVariables false
set_option maxRecDepth 8192

theorem take_fr (w : World) (b g m m2 j : Nat) (u v z : Value) : FrR b g w (((((w.drewN m).setCell ⟨g, j, none⟩ u).drewN m2).setCell ⟨b, 1, none⟩ v).setCell ⟨b, 2, none⟩ z) :=
  (((((Fr.refl _ w).drewN _).setAt _ _ _ (.inr (.inr rfl))).drewN _).setAt _ _ _ (.inr (.inl rfl))).setAt _ _ _ (.inr (.inl rfl))

set_option maxHeartbeats 1000000 in
theorem take_none {w : World} {b g S f : Nat} (h : IsR w b g S f []) :
    Calls Try.prog 18 #[.pointer (some ⟨b, 0, none⟩)] w fun e w' => e = .returned (.tuple #[.int .i64 0, .bool false]) ∧ w = w' := by
  go_enter Try.func18, Try.ntmps18
  go_wp2_with (go_at_call 23; refine (at_none h 0 (.inr (by simp))).mono ?_; rintro e w' ⟨rfl, rfl⟩)
  go_ret2
  exact ⟨rfl, rfl⟩

/-- where a thing stands, behind a store into a slot -/
theorem slot_wiped {w : World} {b g S f : Nat} {l : List Int} (h : IsR w b g S f l) (k : Nat) (u : Value) (i j : Nat) (hi : i ≤ 4096) (hj : Hid ((f + i) % S = j)) :
    Calls Try.prog 41 #[.pointer (some ⟨b, 0, none⟩), .int .i64 (i : Int)] (w.setCell ⟨g, k, none⟩ u) fun e w' => e = .returned (.int .i64 (j : Int)) ∧ ∃ nq, w' = (w.setCell ⟨g, k, none⟩ u).drewN nq := by
  have hf := Fr.set1 w g k u
  have c0 := cell_at (hf.blk h.blk h.ne) 0
  have c1 := cell_at (hf.blk h.blk h.ne) 1
  simp at c0 c1
  have h1 := h.pos
  have h2 := h.most
  have hS : ((S : Int) == 0) = false := by simp; omega
  rw [← hj.out]
  go_enter Try.func41, Try.ntmps41
  go_wp2
  go_quiet (fail)
  go_wp2
  go_ret
  refine ⟨?_, _, rfl⟩
  congr 2

set_option maxHeartbeats 1000000 in
theorem take_some {w : World} {b g S f : Nat} {x : Int} {l : List Int} (h : IsR w b g S f (x :: l)) :
    Calls Try.prog 18 #[.pointer (some ⟨b, 0, none⟩)] w fun e w' => e = .returned (.tuple #[.int .i64 x, .bool true]) ∧ IsR w' b g S ((f + 1) % S) l ∧ FrR b g w w' := by
  have c0 := cell_at h.blk 0
  have c1 := cell_at h.blk 1
  have c2 := cell_at h.blk 2
  have f1 := free_at h.blk 1
  have f2 := free_at h.blk 2
  simp at c0 c1 c2
  have hne := h.ne
  have hne' : g ≠ b := fun e => hne e.symm
  have hlen := h.len
  have hmost := h.most
  simp only [List.length_cons] at hlen
  obtain ⟨j, hj⟩ : ∃ j, (f + 1) % S = j := ⟨_, rfl⟩
  obtain ⟨i, hi⟩ : ∃ i, (f + 0) % S = i := ⟨_, rfl⟩
  have HI := hide hi
  have HJ := hide hj
  clear hi hj
  go_enter Try.func18, Try.ntmps18
  go_wp2_with (first | (go_at_call 23; refine (at_some h 0 x rfl).mono ?_; rintro e w' ⟨rfl, nq, rfl⟩) | (go_at_call 42; refine (wipe_calls (h.drewN nq) 0 i (by omega) (unhide HI)).mono ?_; rintro e w' ⟨rfl, nq2, rfl⟩) | (go_at_call 41; refine (slot_wiped (h.drewN _) i (.int .i64 0) 1 j (by omega) HJ).mono ?_; rintro e w' ⟨rfl, nq3, rfl⟩))
  all_goals
    go_ret2
    have hP := (h.drewN (nq + nq2)).take (.int .i64 0)
    rw [unhide HJ, unhide HI] at hP
    exact ⟨rfl, by rw [unhide HJ]; exact hP.same rfl, (take_fr w b g (nq + nq2) nq3 i _ _ _).congr rfl rfl rfl rfl⟩

theorem pop_fr (w : World) (b g m j : Nat) (u z : Value) : FrR b g w (((w.drewN m).setCell ⟨g, j, none⟩ u).setCell ⟨b, 2, none⟩ z) :=
  (((Fr.refl _ w).drewN _).setAt _ _ _ (.inr (.inr rfl))).setAt _ _ _ (.inr (.inl rfl))

set_option maxHeartbeats 1000000 in
theorem pop_none {w : World} {b g S f : Nat} (h : IsR w b g S f []) :
    Calls Try.prog 20 #[.pointer (some ⟨b, 0, none⟩)] w fun e w' => e = .returned (.tuple #[.int .i64 0, .bool false]) ∧ w = w' := by
  go_enter Try.func20, Try.ntmps20
  go_wp2_with (first | (go_at_call 22; refine (len_calls h).mono ?_; rintro e w' ⟨rfl, rfl⟩) | (go_at_call 23; refine (at_none h (-1) (.inl (by omega))).mono ?_; rintro e w' ⟨rfl, rfl⟩))
  go_ret2
  exact ⟨rfl, rfl⟩

set_option maxHeartbeats 1000000 in
theorem pop_some {w : World} {b g S f : Nat} {x : Int} {l : List Int} (h : IsR w b g S f (l ++ [x])) :
    Calls Try.prog 20 #[.pointer (some ⟨b, 0, none⟩)] w fun e w' => e = .returned (.tuple #[.int .i64 x, .bool true]) ∧ IsR w' b g S f l ∧ FrR b g w w' := by
  have c0 := cell_at h.blk 0
  have c2 := cell_at h.blk 2
  have f2 := free_at h.blk 2
  simp at c0 c2
  have hne := h.ne
  have hne' : g ≠ b := fun e => hne e.symm
  have hlen := h.len
  have hmost := h.most
  simp only [List.length_append, List.length_singleton] at hlen
  obtain ⟨i, hi⟩ : ∃ i, (f + l.length) % S = i := ⟨_, rfl⟩
  have HI := hide hi
  have HX : Hid ((l ++ [x])[l.length]? = some x) := hide (by simp)
  clear hi
  go_enter Try.func20, Try.ntmps20
  go_wp2_with (first | (go_at_call 22; refine (len_calls h).mono ?_; rintro e w' ⟨rfl, rfl⟩) | (go_at_call 23; refine (at_some h l.length x (unhide HX)).mono ?_; rintro e w' ⟨rfl, nq, rfl⟩) | (go_at_call 42; refine (wipe_calls (h.drewN nq) l.length i (by omega) (unhide HI)).mono ?_; rintro e w' ⟨rfl, nq2, rfl⟩))
  all_goals
    go_ret2
    have hP := (h.drewN (nq + nq2)).pop (.int .i64 0)
    rw [unhide HI] at hP
    exact ⟨rfl, hP.same rfl, (pop_fr w b g (nq + nq2) i _ _).congr rfl rfl rfl rfl⟩

end Go.Proofs.Ytanmhjnelhjejaa
