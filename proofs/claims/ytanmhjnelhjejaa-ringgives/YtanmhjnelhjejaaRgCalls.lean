/-
  What Put, Push, At, Take and Pop of a ring of numbers do.
-/
import Derived.Test.YtanmhjnelhjejaaRgInt
import Derived.Deep.RegionWith
namespace Go.Proofs.Ytanmhjnelhjejaa
open Go.RowKit
set_option linter.unusedVariables false
set_option maxRecDepth 8192

theorem IsR.same {w w' : World} {b g S f : Nat} {l : List Int} (h : IsR w b g S f l) (e : w'.heap = w.heap) : IsR w' b g S f l :=
  ⟨by rw [e]; exact h.blk, by rw [e]; exact h.row, h.pos, h.len, h.most, h.ne⟩

/-- of the blocks that were there none but the ring's two has turned -/
abbrev FrR (b g : Nat) := Fr (fun k => k = b ∨ k = g)

theorem Fr.heap {P : Nat → Prop} {w w' : World} (e : w'.heap = w.heap) (h1 : w'.os = w.os) (h2 : w'.tape = w.tape) (h3 : w'.output = w.output) : Fr P w w' :=
  ⟨h1, h2, h3, by rw [e]; exact Nat.le_refl _, fun k _ _ => by rw [e]⟩

theorem Fr.congr {P : Nat → Prop} {w w1 w2 : World} (h : Fr P w w1) (e : w2.heap = w1.heap) (h1 : w2.os = w1.os) (h2 : w2.tape = w1.tape) (h3 : w2.output = w1.output) : Fr P w w2 :=
  ⟨h1.trans h.os, h2.trans h.tape, h3.trans h.output, by rw [e]; exact h.size, fun k hk hn => by rw [e]; exact h.block k hk hn⟩

theorem push_fr (w : World) (b g m j : Nat) (u v z : Value) : FrR b g w ((((w.drewN m).setCell ⟨b, 1, none⟩ u).setCell ⟨g, j, none⟩ v).setCell ⟨b, 2, none⟩ z) :=
  ((((Fr.refl _ w).drewN _).setAt _ _ _ (.inr (.inl rfl))).setAt _ _ _ (.inr (.inr rfl))).setAt _ _ _ (.inr (.inl rfl))

set_option maxHeartbeats 1000000 in
theorem put_full {w : World} {b g S f : Nat} {l : List Int} (h : IsR w b g S f l) (hl : l.length = S) (x : Int) :
    Calls Try.prog 14 #[.pointer (some ⟨b, 0, none⟩), .int .i64 x] w fun e w' => e = .returned (.int .i64 7) ∧ ∃ nq, w' = w.drewN nq := by
  go_enter Try.func14, Try.ntmps14
  go_wp2_with (go_at_call 40; refine (room_no h hl).mono ?_; rintro e w' ⟨rfl, nq, rfl⟩)
  go_ret
  exact ⟨rfl, _, rfl⟩

theorem slot_at {w : World} {b g S f : Nat} {l : List Int} (h : IsR w b g S f l) (i j : Nat) (hi : i ≤ 4096) (hj : Hid ((f + i) % S = j)) :
    Calls Try.prog 41 #[.pointer (some ⟨b, 0, none⟩), .int .i64 (i : Int)] w fun e w' => e = .returned (.int .i64 (j : Int)) ∧ ∃ nq, w' = w.drewN nq := by
  rw [← hj.out]; exact slot_calls h i hi

set_option maxHeartbeats 1000000 in
theorem put_ok {w : World} {b g S f : Nat} {l : List Int} (h : IsR w b g S f l) (hl : l.length < S) (x : Int) :
    Calls Try.prog 14 #[.pointer (some ⟨b, 0, none⟩), .int .i64 x] w fun e w' => e = .returned (.int .i64 0) ∧ IsR w' b g S f (l ++ [x]) ∧ FrR b g w w' := by
  have c0 := cell_at h.blk 0
  have c2 := cell_at h.blk 2
  have f2 := free_at h.blk 2
  simp at c0 c2
  have hm := Nat.mod_lt (f + l.length) (show 0 < S by omega)
  obtain ⟨u, g1, g2⟩ := h.slots _ hm
  obtain ⟨j, hj⟩ : ∃ j, (f + l.length) % S = j := ⟨_, rfl⟩
  rw [hj] at hm g1 g2
  have HJ := hide hj
  clear hj
  have hmost := h.most
  have hne := h.ne
  have hne' : g ≠ b := fun e => hne e.symm
  have hI : (j : Int) < (S : Int) := by omega
  go_enter Try.func14, Try.ntmps14
  go_wp2_with (go_at_call 40; refine (room_ok h hl).mono ?_; rintro e w' ⟨rfl, nq, rfl⟩)
  go_region_with (go_at_call 41; refine (slot_at (h.drewN _) l.length j (by omega) HJ).mono ?_; rintro e w' ⟨rfl, nq2, rfl⟩)
  all_goals
    go_wp2
    go_ret
    have hP := (h.drewN (nq + 1 + nq2)).put hl x
    rw [HJ.out] at hP
    exact ⟨rfl, hP, (((Fr.refl _ w).drewN _).setAt _ _ _ (.inr (.inr rfl))).setAt _ _ _ (.inr (.inl rfl))⟩

set_option maxHeartbeats 1000000 in
theorem push_full {w : World} {b g S f : Nat} {l : List Int} (h : IsR w b g S f l) (hl : l.length = S) (x : Int) :
    Calls Try.prog 16 #[.pointer (some ⟨b, 0, none⟩), .int .i64 x] w fun e w' => e = .returned (.int .i64 7) ∧ ∃ nq, w' = w.drewN nq := by
  go_enter Try.func16, Try.ntmps16
  go_wp2_with (go_at_call 40; refine (room_no h hl).mono ?_; rintro e w' ⟨rfl, nq, rfl⟩)
  go_ret
  exact ⟨rfl, _, rfl⟩

set_option maxHeartbeats 1000000 in
theorem push_ok {w : World} {b g S f : Nat} {l : List Int} (h : IsR w b g S f l) (hl : l.length < S) (x : Int) :
    Calls Try.prog 16 #[.pointer (some ⟨b, 0, none⟩), .int .i64 x] w fun e w' => e = .returned (.int .i64 0) ∧ IsR w' b g S ((f + (S - 1)) % S) (x :: l) ∧ FrR b g w w' := by
  have c0 := cell_at h.blk 0
  have c1 := cell_at h.blk 1
  have c2 := cell_at h.blk 2
  have f1 := free_at h.blk 1
  have f2 := free_at h.blk 2
  simp at c0 c1 c2
  have hm := Nat.mod_lt (f + (S - 1)) (show 0 < S by omega)
  obtain ⟨u, g1, g2⟩ := h.slots _ hm
  obtain ⟨j, hj⟩ : ∃ j, (f + (S - 1)) % S = j := ⟨_, rfl⟩
  rw [hj] at hm g1 g2
  have HJ := hide hj
  clear hj
  have hmost := h.most
  have hne := h.ne
  have hne' : g ≠ b := fun e => hne e.symm
  have hI : (j : Int) < (S : Int) := by omega
  have HS1 : Hid ((S : Int) - 1 = ((S - 1 : Nat) : Int)) := hide (by omega)
  go_enter Try.func16, Try.ntmps16
  go_wp2_with (first | (go_at_call 40; refine (room_ok h hl).mono ?_; rintro e w' ⟨rfl, nq, rfl⟩) | (go_at_call 41; rw [unhide HS1]; refine (slot_at (h.drewN _) (S - 1) j (by omega) HJ).mono ?_; rintro e w' ⟨rfl, nq2, rfl⟩))
  go_region_with (fail)
  all_goals
    go_wp2
    go_ret
    have hP := (h.drewN (nq + nq2)).push hl x
    rw [HJ.out] at hP ⊢
    exact ⟨rfl, hP.same rfl, (push_fr w b g (nq + nq2) j _ _ _).congr rfl rfl rfl rfl⟩

set_option maxHeartbeats 1000000 in
theorem at_none {w : World} {b g S f : Nat} {l : List Int} (h : IsR w b g S f l) (i : Int) (hi : i < 0 ∨ i ≥ l.length) :
    Calls Try.prog 23 #[.pointer (some ⟨b, 0, none⟩), .int .i64 i] w fun e w' => e = .returned (.tuple #[.int .i64 0, .bool false]) ∧ w = w' := by
  rcases Int.lt_or_le i 0 with hi0 | hi0
  · go_enter Try.func23, Try.ntmps23
    go_wp2
    go_ret2
    exact ⟨rfl, rfl⟩
  · have hi1 : i ≥ l.length := by omega
    clear hi
    go_enter Try.func23, Try.ntmps23
    go_wp2_with (go_at_call 22; refine (len_calls h).mono ?_; rintro e w' ⟨rfl, rfl⟩)
    go_ret2
    exact ⟨rfl, rfl⟩

set_option maxHeartbeats 1000000 in
theorem at_some {w : World} {b g S f : Nat} {l : List Int} (h : IsR w b g S f l) (i : Nat) (x : Int) (hx : l[i]? = some x) :
    Calls Try.prog 23 #[.pointer (some ⟨b, 0, none⟩), .int .i64 (i : Int)] w fun e w' => e = .returned (.tuple #[.int .i64 x, .bool true]) ∧ ∃ nq, w' = w.drewN nq := by
  have c0 := cell_at h.blk 0
  simp at c0
  have hil := (List.getElem?_eq_some_iff.1 hx).1
  have hlen := h.len
  have hm := Nat.mod_lt (f + i) (show 0 < S by omega)
  have g1 := h.thing hx
  obtain ⟨j, hj⟩ : ∃ j, (f + i) % S = j := ⟨_, rfl⟩
  rw [hj] at hm g1
  have HJ := hide hj
  clear hj hx
  have hmost := h.most
  have hI : (j : Int) < (S : Int) := by omega
  have hI2 : (i : Int) < (l.length : Int) := by omega
  go_enter Try.func23, Try.ntmps23
  go_wp2_with (go_at_call 22; refine (len_calls h).mono ?_; rintro e w' ⟨rfl, rfl⟩)
  go_region_with (go_at_call 41; refine (slot_at (h.drewN _) i j (by omega) HJ).mono ?_; rintro e w' ⟨rfl, nq2, rfl⟩)
  all_goals
    go_wp2
    go_ret2
    exact ⟨rfl, _, rfl⟩

set_option maxHeartbeats 1000000 in
theorem wipe_calls {w : World} {b g S f : Nat} {l : List Int} (h : IsR w b g S f l) (i j : Nat) (hi : i ≤ 4096) (hj : (f + i) % S = j) :
    Calls Try.prog 42 #[.pointer (some ⟨b, 0, none⟩), .int .i64 (i : Int)] w fun e w' => e = .returned (.tuple #[]) ∧ ∃ nq, w' = (w.drewN nq).setCell ⟨g, j, none⟩ (.int .i64 0) := by
  have c0 := cell_at h.blk 0
  simp at c0
  have hpos := h.pos
  have hm := Nat.mod_lt (f + i) (show 0 < S by omega)
  rw [hj] at hm
  obtain ⟨u, g1, g2⟩ := h.slots _ hm
  have HJ := hide hj
  clear hj
  have hmost := h.most
  have hI : (j : Int) < (S : Int) := by omega
  go_enter Try.func42, Try.ntmps42
  go_wp2
  go_region_with (go_at_call 41; refine (slot_at (h.drewN _) i j (by omega) HJ).mono ?_; rintro e w' ⟨rfl, nq2, rfl⟩)
  all_goals
    go_wp2
    go_end0
    exact ⟨rfl, _, rfl⟩

end Go.Proofs.Ytanmhjnelhjejaa
