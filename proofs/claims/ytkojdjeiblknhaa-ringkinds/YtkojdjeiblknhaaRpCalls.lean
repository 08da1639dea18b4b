/-
  What Put, Push, At, Take and Pop of a ring of pairs do.
-/
import Derived.Test.YtkojdjeiblknhaaRpInt
import Derived.Laws.ResultCell
import Derived.Deep.RegionWith
import Derived.Deep.Cut
namespace Go.Proofs.Ytkojdjeiblknhaa.Rp
open Go.RowKit
set_option linter.unusedVariables false
set_option maxRecDepth 8192

theorem IsR.al {w : World} {b g S f : Nat} {l : List (Int × Int)} (h : IsR w b g S f l) (o : Obj) : IsR (w.alloc o) b g S f l := h.fr ((Fr.refl (fun _ => False) w).alloc o) (fun h => h) (fun h => h)
theorem IsR.lt {w : World} {b g S f : Nat} {l : List (Int × Int)} (h : IsR w b g S f l) : b < w.heap.size ∧ g < w.heap.size := by
  obtain ⟨cs, h1, _⟩ := h.row
  exact ⟨lt_of_blk h.blk, lt_of_blk h1⟩

theorem slot_at {w : World} {b g S f : Nat} {l : List (Int × Int)} (h : IsR w b g S f l) (i j : Nat) (hi : i ≤ 4096) (hj : Hid ((f + i) % S = j)) :
    Calls Try.prog 50 #[.pointer (some ⟨b, 0, none⟩), .int .i64 (i : Int)] w fun e w' => e = .returned (.int .i64 (j : Int)) ∧ ∃ nq, w' = w.drewN nq := by
  rw [← hj.out]; exact slot_calls h i hi

set_option maxHeartbeats 1000000 in
theorem put_full {w : World} {b g S f : Nat} {l : List (Int × Int)} (h : IsR w b g S f l) (hl : l.length = S) (x y : Int) :
    Calls Try.prog 31 #[.pointer (some ⟨b, 0, none⟩), .agg #[.int .i64 x, .int .i64 y]] w fun e w' => e = .returned (.int .i64 7) ∧ IsR w' b g S f l ∧ FrR b g w w' := by
  go_enter Try.func31, Try.ntmps31
  go_wp2_with (go_at_call 49; refine (room_no (h.al _) hl).mono ?_; rintro e w' ⟨rfl, nq, rfl⟩)
  go_ret
  exact ⟨rfl, (h.al _).drewN nq, ((Fr.refl _ w).alloc _).drewN nq⟩

set_option maxHeartbeats 1000000 in
theorem push_full {w : World} {b g S f : Nat} {l : List (Int × Int)} (h : IsR w b g S f l) (hl : l.length = S) (x y : Int) :
    Calls Try.prog 33 #[.pointer (some ⟨b, 0, none⟩), .agg #[.int .i64 x, .int .i64 y]] w fun e w' => e = .returned (.int .i64 7) ∧ IsR w' b g S f l ∧ FrR b g w w' := by
  go_enter Try.func33, Try.ntmps33
  go_wp2_with (go_at_call 49; refine (room_no (h.al _) hl).mono ?_; rintro e w' ⟨rfl, nq, rfl⟩)
  go_ret
  exact ⟨rfl, (h.al _).drewN nq, ((Fr.refl _ w).alloc _).drewN nq⟩

set_option maxHeartbeats 2000000 in
theorem put_ok {w : World} {b g S f : Nat} {l : List (Int × Int)} (h : IsR w b g S f l) (hl : l.length < S) (x y : Int) :
    Calls Try.prog 31 #[.pointer (some ⟨b, 0, none⟩), .agg #[.int .i64 x, .int .i64 y]] w fun e w' => e = .returned (.int .i64 0) ∧ IsR w' b g S f (l ++ [(x, y)]) ∧ FrR b g w w' := by
  have hlt := h.lt
  have ha := h.al (.cells #[.int .i64 x, .int .i64 y] 54)
  have hbx := blk_new w (.cells #[.int .i64 x, .int .i64 y] 54)
  have x0 := cell_at hbx 0
  have x1 := cell_at hbx 1
  have c0 := cell_at ha.blk 0
  have c2 := cell_at ha.blk 2
  have f2 := free_at ha.blk 2
  have hm := Nat.mod_lt (f + l.length) (show 0 < S by omega)
  obtain ⟨u, u', g1, g2, g3, g4⟩ := ha.slots _ hm
  obtain ⟨j, hj⟩ : ∃ j, (f + l.length) % S = j := ⟨_, rfl⟩
  rw [hj] at hm g1 g2 g3 g4
  have HJ := hide hj
  clear hj
  have hmost := h.most
  have hne := h.ne
  have hne' : g ≠ b := fun e => hne e.symm
  have hI : (j : Int) < (S : Int) := by omega
  have hFa : FrR b g w (w.alloc (.cells #[.int .i64 x, .int .i64 y] 54)) := (Fr.refl _ w).alloc _
  have hbq : b ≠ w.heap.size := by omega
  have hgq : g ≠ w.heap.size := by omega
  go_enter Try.func31, Try.ntmps31
  go_upto_region 1 with fail
  generalize w.alloc (.cells #[.int .i64 x, .int .i64 y] 54) = wa at *
  generalize w.heap.size = q at *
  simp at c0 c2 x0 x1
  go_wp2_with (go_at_call 49; refine (room_ok ha hl).mono ?_; rintro e w' ⟨rfl, nq, rfl⟩)
  go_region_with (go_at_call 50; refine (slot_at (ha.drewN _) l.length j (by omega) HJ).mono ?_; rintro e w' ⟨rfl, nq2, rfl⟩)
  all_goals
    go_wp2
    go_ret
    have hP := (ha.drewN (nq + 1 + nq2)).put hl (x, y)
    rw [HJ.out] at hP
    exact ⟨rfl, hP, (((hFa.drewN _).setAt _ _ _ (.inr (.inr rfl))).setAt _ _ _ (.inr (.inr rfl))).setAt _ _ _ (.inr (.inl rfl))⟩

set_option maxHeartbeats 2000000 in
theorem push_ok {w : World} {b g S f : Nat} {l : List (Int × Int)} (h : IsR w b g S f l) (hl : l.length < S) (x y : Int) :
    Calls Try.prog 33 #[.pointer (some ⟨b, 0, none⟩), .agg #[.int .i64 x, .int .i64 y]] w fun e w' => e = .returned (.int .i64 0) ∧ IsR w' b g S ((f + (S - 1)) % S) ((x, y) :: l) ∧ FrR b g w w' := by
  have hlt := h.lt
  have ha := h.al (.cells #[.int .i64 x, .int .i64 y] 54)
  have hbx := blk_new w (.cells #[.int .i64 x, .int .i64 y] 54)
  have x0 := cell_at hbx 0
  have x1 := cell_at hbx 1
  have c0 := cell_at ha.blk 0
  have c1 := cell_at ha.blk 1
  have c2 := cell_at ha.blk 2
  have f1 := free_at ha.blk 1
  have f2 := free_at ha.blk 2
  have hm := Nat.mod_lt (f + (S - 1)) (show 0 < S by omega)
  obtain ⟨u, u', g1, g2, g3, g4⟩ := ha.slots _ hm
  obtain ⟨j, hj⟩ : ∃ j, (f + (S - 1)) % S = j := ⟨_, rfl⟩
  rw [hj] at hm g1 g2 g3 g4
  have HJ := hide hj
  clear hj
  have hmost := h.most
  have hne := h.ne
  have hne' : g ≠ b := fun e => hne e.symm
  have hI : (j : Int) < (S : Int) := by omega
  have HS1 : Hid ((S : Int) - 1 = ((S - 1 : Nat) : Int)) := hide (by omega)
  have hFa : FrR b g w (w.alloc (.cells #[.int .i64 x, .int .i64 y] 54)) := (Fr.refl _ w).alloc _
  have hbq : b ≠ w.heap.size := by omega
  have hgq : g ≠ w.heap.size := by omega
  have hqb : w.heap.size ≠ b := by omega
  go_enter Try.func33, Try.ntmps33
  go_upto_region 1 with fail
  generalize w.alloc (.cells #[.int .i64 x, .int .i64 y] 54) = wa at *
  generalize w.heap.size = q at *
  simp at c0 c1 c2 x0 x1
  go_wp2_with (first | (go_at_call 49; refine (room_ok ha hl).mono ?_; rintro e w' ⟨rfl, nq, rfl⟩) | (go_at_call 50; rw [unhide HS1]; refine (slot_at (ha.drewN _) (S - 1) j (by omega) HJ).mono ?_; rintro e w' ⟨rfl, nq2, rfl⟩))
  go_region_with (fail)
  all_goals
    go_wp2
    go_ret
    have hP := (ha.drewN (nq + nq2)).push hl (x, y)
    rw [HJ.out] at hP ⊢
    exact ⟨rfl, hP.same rfl, ((((hFa.drewN (nq + nq2)).setAt _ _ _ (.inr (.inl rfl))).setAt _ _ _ (.inr (.inr rfl))).setAt _ _ _ (.inr (.inr rfl))).setAt _ _ _ (.inr (.inl rfl)) |>.congr rfl rfl rfl rfl⟩

end Go.Proofs.Ytkojdjeiblknhaa.Rp
