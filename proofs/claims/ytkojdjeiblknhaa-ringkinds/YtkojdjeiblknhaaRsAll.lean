/-
  A ring of texts: its memory, and what its calls do to it.
-/
import Derived.Test.YtkojdjeiblknhaaRgArr
import Derived.Deep.RegionWith
namespace Go.Proofs.Ytkojdjeiblknhaa.Rs
open Go.RowKit
set_option linter.unusedVariables false
set_option maxRecDepth 8192

theorem infoStr : (Try.prog.info? 9).map (fun i => (i.zero, i.size, i.bytes)) = some (some (.string ⟨#[]⟩), 1, 16) := by kernel_rfl

/-- the ring at block b, its slots in block g: S of them, the first thing in slot f, the things l -/
structure IsR (w : World) (b g S f : Nat) (l : List ByteArray) : Prop where
  blk : w.heap[b]? = some (.cells #[.slice (some ⟨g, 0, none⟩) S S, .int .i64 (f : Int), .int .i64 (l.length : Int)] 76 (0, 0))
  row : ∃ cs : Array Value, w.heap[g]? = some (.cells cs 9 (0, 0)) ∧ cs.size = S ∧ ∀ i x, l[i]? = some x → cs[(f + i) % S]? = some (.string x)
  pos : f < S
  len : l.length ≤ S
  most : S ≤ 4096
  ne : b ≠ g

theorem IsR.fr {P : Nat → Prop} {w w' : World} {b g S f : Nat} {l : List ByteArray} (h : IsR w b g S f l) (hf : Fr P w w') (hb : ¬ P b) (hg : ¬ P g) : IsR w' b g S f l := by
  obtain ⟨cs, h1, h2⟩ := h.row
  exact ⟨hf.blk h.blk hb, ⟨cs, hf.blk h1 hg, h2⟩, h.pos, h.len, h.most, h.ne⟩

theorem IsR.drewN {w : World} {b g S f : Nat} {l : List ByteArray} (h : IsR w b g S f l) (n : Nat) : IsR (w.drewN n) b g S f l := ⟨h.blk, h.row, h.pos, h.len, h.most, h.ne⟩


set_option maxHeartbeats 400000 in
theorem rnew_calls (n : Int) (w : World) :
    Calls Try.prog 28 #[.int .i64 n] w fun e w' => e = .returned (.pointer (some ⟨w.heap.size + 1, 0, none⟩)) ∧ IsR w' (w.heap.size + 1) w.heap.size (clamp n) 0 [] ∧ Fr (fun _ => False) w w' := by
  have h1 := clamp_eq n
  have h2 := clamp_pos n
  have h3 := clamp_most n
  go_enter Try.func28, Try.ntmps28
  go_wp2_with (at_make; refine wpList_make_z _ rfl _ _ 74 rfl 9 (.string ⟨#[]⟩) 1 16 Try.underlying74 infoStr _ _ (clamp n) _ _ rfl rfl (by omega) (by omega) (by omega) (by unfold maxLen; omega) ?_; intro cs hcs)
  all_goals
    go_ret
    have hf : Fr (fun _ => False) w (w.alloc (.cells cs 9)) := (Fr.refl _ w).alloc _
    exact ⟨by simp, ⟨by have := blk_new (w.alloc (.cells cs 9)) (.cells #[.slice (some ⟨w.heap.size, 0, none⟩) (clamp n) (clamp n), .int .i64 0, .int .i64 0] 76); simpa using this, ⟨cs, blk_alloc (blk_new _ _), by omega, fun i x hx => by simp at hx⟩, h2, by simp, h3, by omega⟩, hf.alloc _⟩

set_option maxHeartbeats 400000 in
theorem slot_calls {w : World} {b g S f : Nat} {l : List ByteArray} (h : IsR w b g S f l) (i : Nat) (hi : i ≤ 4096) :
    Calls Try.prog 48 #[.pointer (some ⟨b, 0, none⟩), .int .i64 (i : Int)] w fun e w' => e = .returned (.int .i64 (((f + i) % S : Nat) : Int)) ∧ ∃ nq, w' = w.drewN nq := by
  have c0 := cell_at h.blk 0
  have c1 := cell_at h.blk 1
  simp at c0 c1
  have h1 := h.pos
  have h2 := h.most
  have hS : ((S : Int) == 0) = false := by simp; omega
  go_enter Try.func48, Try.ntmps48
  go_wp2
  go_quiet (fail)
  go_wp2
  go_ret
  refine ⟨?_, _, rfl⟩
  congr 2

set_option maxHeartbeats 400000 in
theorem room_no {w : World} {b g S f : Nat} {l : List ByteArray} (h : IsR w b g S f l) (hl : l.length = S) :
    Calls Try.prog 47 #[.pointer (some ⟨b, 0, none⟩)] w fun e w' => e = .returned (.int .i64 7) ∧ ∃ nq, w' = w.drewN nq := by
  have c0 := cell_at h.blk 0
  have c2 := cell_at h.blk 2
  simp at c0 c2
  rw [hl] at c2
  go_enter Try.func47, Try.ntmps47
  go_wp2
  go_quiet (fail)
  go_wp2
  go_ret
  exact ⟨rfl, _, rfl⟩

set_option maxHeartbeats 400000 in
theorem room_ok {w : World} {b g S f : Nat} {l : List ByteArray} (h : IsR w b g S f l) (hl : l.length < S) :
    Calls Try.prog 47 #[.pointer (some ⟨b, 0, none⟩)] w fun e w' => e = .returned (.int .i64 0) ∧ ∃ nq, w' = w.drewN nq := by
  have c0 := cell_at h.blk 0
  have c2 := cell_at h.blk 2
  simp at c0 c2
  have hne : ((l.length : Int) == (S : Int)) = false := by simp; omega
  go_enter Try.func47, Try.ntmps47
  go_wp2
  go_quiet (fail)
  go_wp2
  go_ret
  exact ⟨rfl, _, rfl⟩

set_option maxHeartbeats 400000 in
theorem len_calls {w : World} {b g S f : Nat} {l : List ByteArray} (h : IsR w b g S f l) :
    Calls Try.prog 38 #[.pointer (some ⟨b, 0, none⟩)] w fun e w' => e = .returned (.int .i64 (l.length : Int)) ∧ w = w' := by
  have c2 := cell_at h.blk 2
  simp at c2
  go_enter Try.func38, Try.ntmps38
  go_wp2
  go_ret
  exact ⟨rfl, rfl⟩

theorem IsR.slots {w : World} {b g S f : Nat} {l : List ByteArray} (h : IsR w b g S f l) (j : Nat) (hj : j < S) : ∃ u, w.cell? ⟨g, j, none⟩ = some u ∧ w.frozen? ⟨g, j, none⟩ = false := by
  obtain ⟨cs, h1, h2, _⟩ := h.row
  exact ⟨cs[j], by rw [cell_at h1, Array.getElem?_eq_getElem (by omega)], free_at h1 j⟩

theorem IsR.thing {w : World} {b g S f : Nat} {l : List ByteArray} (h : IsR w b g S f l) {i : Nat} {x : ByteArray} (hx : l[i]? = some x) : w.cell? ⟨g, (f + i) % S, none⟩ = some (.string x) := by
  obtain ⟨cs, h1, h2, h3⟩ := h.row
  rw [cell_at h1]; exact h3 i x hx

/-- a thing laid behind the last one -/
theorem IsR.put {w : World} {b g S f : Nat} {l : List ByteArray} (h : IsR w b g S f l) (hl : l.length < S) (x : ByteArray) :
    IsR ((w.setCell ⟨g, (f + l.length) % S, none⟩ (.string x)).setCell ⟨b, 2, none⟩ (.int .i64 ((l.length : Int) + 1))) b g S f (l ++ [x]) := by
  obtain ⟨cs, h1, h2, h3⟩ := h.row
  have hS : 0 < S := by omega
  have f1 := Fr.set1 w g ((f + l.length) % S) (.string x)
  have f2 := Fr.set1 (w.setCell ⟨g, (f + l.length) % S, none⟩ (.string x)) b 2 (.int .i64 ((l.length : Int) + 1))
  have b1 := f1.blk h.blk h.ne
  refine ⟨by rw [blk_setCell b1]; simp, ⟨_, f2.blk (blk_setCell h1) (fun e => h.ne e.symm), by simpa using h2, fun i y hy => ?_⟩, h.pos, by simp; omega, h.most, h.ne⟩
  have hm := Nat.mod_lt (f + l.length) hS
  rcases Nat.lt_or_ge i l.length with hi | hi
  · rw [List.getElem?_append_left hi] at hy
    rw [Array.getElem?_setIfInBounds, if_neg (fun e => by have := mod_ne (by omega) (by omega) e; omega)]
    exact h3 i y hy
  · have hlt := (List.getElem?_eq_some_iff.1 hy).1
    simp at hlt
    obtain rfl : i = l.length := by omega
    simp at hy
    subst hy
    rw [Array.getElem?_setIfInBounds, if_pos rfl, if_pos (by omega)]

/-- a thing laid ahead of the first one -/
theorem IsR.push {w : World} {b g S f : Nat} {l : List ByteArray} (h : IsR w b g S f l) (hl : l.length < S) (x : ByteArray) :
    IsR (((w.setCell ⟨b, 1, none⟩ (.int .i64 (((f + (S - 1)) % S : Nat) : Int))).setCell ⟨g, (f + (S - 1)) % S, none⟩ (.string x)).setCell ⟨b, 2, none⟩ (.int .i64 ((l.length : Int) + 1))) b g S ((f + (S - 1)) % S) (x :: l) := by
  obtain ⟨cs, h1, h2, h3⟩ := h.row
  have hS : 0 < S := by omega
  have hne' : g ≠ b := fun e => h.ne e.symm
  have f0 := Fr.set1 w b 1 (.int .i64 (((f + (S - 1)) % S : Nat) : Int))
  have f1 := Fr.set1 (w.setCell ⟨b, 1, none⟩ (.int .i64 (((f + (S - 1)) % S : Nat) : Int))) g ((f + (S - 1)) % S) (.string x)
  have f2 := Fr.set1 ((w.setCell ⟨b, 1, none⟩ (.int .i64 (((f + (S - 1)) % S : Nat) : Int))).setCell ⟨g, (f + (S - 1)) % S, none⟩ (.string x)) b 2 (.int .i64 ((l.length : Int) + 1))
  have b1 := f1.blk (blk_setCell h.blk) h.ne
  have hm := Nat.mod_lt (f + (S - 1)) hS
  refine ⟨by rw [blk_setCell b1]; simp, ⟨_, f2.blk (blk_setCell (f0.blk h1 hne')) hne', by simpa using h2, fun i y hy => ?_⟩, hm, by simp; omega, h.most, h.ne⟩
  rcases i with _ | i
  · simp at hy
    subst hy
    rw [Nat.add_zero, Nat.mod_mod, Array.getElem?_setIfInBounds, if_pos rfl, if_pos (by omega)]
  · simp at hy
    have hlt := (List.getElem?_eq_some_iff.1 hy).1
    rw [back_slot h.pos, Array.getElem?_setIfInBounds, if_neg (fun e => by have := mod_ne (by omega) (by omega) e; omega)]
    exact h3 i y hy

/-- the first one left -/
theorem IsR.take {w : World} {b g S f : Nat} {x : ByteArray} {l : List ByteArray} (h : IsR w b g S f (x :: l)) (u : Value) :
    IsR (((w.setCell ⟨g, (f + 0) % S, none⟩ u).setCell ⟨b, 1, none⟩ (.int .i64 (((f + 1) % S : Nat) : Int))).setCell ⟨b, 2, none⟩ (.int .i64 (l.length : Int))) b g S ((f + 1) % S) l := by
  obtain ⟨cs, h1, h2, h3⟩ := h.row
  have hp := h.pos
  have hl := h.len
  simp only [List.length_cons] at hl
  have hne' : g ≠ b := fun e => h.ne e.symm
  have f0 := Fr.set1 w g ((f + 0) % S) u
  have f1 := Fr.set1 (w.setCell ⟨g, (f + 0) % S, none⟩ u) b 1 (.int .i64 (((f + 1) % S : Nat) : Int))
  have f2 := Fr.set1 ((w.setCell ⟨g, (f + 0) % S, none⟩ u).setCell ⟨b, 1, none⟩ (.int .i64 (((f + 1) % S : Nat) : Int))) b 2 (.int .i64 (l.length : Int))
  have hm := Nat.mod_lt (f + 1) (show 0 < S by omega)
  refine ⟨by rw [blk_setCell (blk_setCell (f0.blk h.blk h.ne))]; simp, ⟨_, f2.blk (f1.blk (blk_setCell h1) hne') hne', by simpa using h2, fun i y hy => ?_⟩, hm, by omega, h.most, h.ne⟩
  have hlt := (List.getElem?_eq_some_iff.1 hy).1
  rw [next_slot, Array.getElem?_setIfInBounds, if_neg (fun e => by have := mod_ne (S := S) (f := f) (i := 0) (j := i + 1) (by omega) (by omega) e; omega)]
  exact h3 (i + 1) y (by simpa using hy)

/-- the last one left -/
theorem IsR.pop {w : World} {b g S f : Nat} {x : ByteArray} {l : List ByteArray} (h : IsR w b g S f (l ++ [x])) (u : Value) :
    IsR ((w.setCell ⟨g, (f + l.length) % S, none⟩ u).setCell ⟨b, 2, none⟩ (.int .i64 (l.length : Int))) b g S f l := by
  obtain ⟨cs, h1, h2, h3⟩ := h.row
  have hp := h.pos
  have hl := h.len
  simp only [List.length_append, List.length_singleton] at hl
  have hne' : g ≠ b := fun e => h.ne e.symm
  have f0 := Fr.set1 w g ((f + l.length) % S) u
  have f2 := Fr.set1 (w.setCell ⟨g, (f + l.length) % S, none⟩ u) b 2 (.int .i64 (l.length : Int))
  refine ⟨by rw [blk_setCell (f0.blk h.blk h.ne)]; simp, ⟨_, f2.blk (blk_setCell h1) hne', by simpa using h2, fun i y hy => ?_⟩, hp, by omega, h.most, h.ne⟩
  have hlt := (List.getElem?_eq_some_iff.1 hy).1
  rw [Array.getElem?_setIfInBounds, if_neg (fun e => by have := mod_ne (S := S) (f := f) (by omega) (by omega) e; omega)]
  exact h3 i y (by rw [List.getElem?_append_left hlt]; exact hy)


theorem IsR.same {w w' : World} {b g S f : Nat} {l : List ByteArray} (h : IsR w b g S f l) (e : w'.heap = w.heap) : IsR w' b g S f l :=
  ⟨by rw [e]; exact h.blk, by rw [e]; exact h.row, h.pos, h.len, h.most, h.ne⟩

set_option maxHeartbeats 1000000 in
theorem put_full {w : World} {b g S f : Nat} {l : List ByteArray} (h : IsR w b g S f l) (hl : l.length = S) (x : ByteArray) :
    Calls Try.prog 30 #[.pointer (some ⟨b, 0, none⟩), .string x] w fun e w' => e = .returned (.int .i64 7) ∧ ∃ nq, w' = w.drewN nq := by
  go_enter Try.func30, Try.ntmps30
  go_wp2_with (go_at_call 47; refine (room_no h hl).mono ?_; rintro e w' ⟨rfl, nq, rfl⟩)
  go_ret
  exact ⟨rfl, _, rfl⟩

theorem slot_at {w : World} {b g S f : Nat} {l : List ByteArray} (h : IsR w b g S f l) (i j : Nat) (hi : i ≤ 4096) (hj : Hid ((f + i) % S = j)) :
    Calls Try.prog 48 #[.pointer (some ⟨b, 0, none⟩), .int .i64 (i : Int)] w fun e w' => e = .returned (.int .i64 (j : Int)) ∧ ∃ nq, w' = w.drewN nq := by
  rw [← hj.out]; exact slot_calls h i hi

set_option maxHeartbeats 1000000 in
theorem put_ok {w : World} {b g S f : Nat} {l : List ByteArray} (h : IsR w b g S f l) (hl : l.length < S) (x : ByteArray) :
    Calls Try.prog 30 #[.pointer (some ⟨b, 0, none⟩), .string x] w fun e w' => e = .returned (.int .i64 0) ∧ IsR w' b g S f (l ++ [x]) ∧ FrR b g w w' := by
  have c0 := cell_at h.blk 0
  have c2 := cell_at h.blk 2
  have f2 := free_at h.blk 2
  simp at c0 c2
  have hm := Nat.mod_lt (f + l.length) (show 0 < S by omega)
  obtain ⟨u, g1, g2⟩ := h.slots _ hm
  obtain ⟨j, hj⟩ : ∃ j, (f + l.length) % S = j := ⟨_, rfl⟩
  rw [hj] at hm g1 g2
  have HJ := hide hj
  clear hj
  have hmost := h.most
  have hne := h.ne
  have hne' : g ≠ b := fun e => hne e.symm
  have hI : (j : Int) < (S : Int) := by omega
  go_enter Try.func30, Try.ntmps30
  go_wp2_with (go_at_call 47; refine (room_ok h hl).mono ?_; rintro e w' ⟨rfl, nq, rfl⟩)
  go_region_with (go_at_call 48; refine (slot_at (h.drewN _) l.length j (by omega) HJ).mono ?_; rintro e w' ⟨rfl, nq2, rfl⟩)
  all_goals
    go_wp2
    go_ret
    have hP := (h.drewN (nq + 1 + nq2)).put hl x
    rw [HJ.out] at hP
    exact ⟨rfl, hP, (((Fr.refl _ w).drewN _).setAt _ _ _ (.inr (.inr rfl))).setAt _ _ _ (.inr (.inl rfl))⟩

set_option maxHeartbeats 1000000 in
theorem push_full {w : World} {b g S f : Nat} {l : List ByteArray} (h : IsR w b g S f l) (hl : l.length = S) (x : ByteArray) :
    Calls Try.prog 32 #[.pointer (some ⟨b, 0, none⟩), .string x] w fun e w' => e = .returned (.int .i64 7) ∧ ∃ nq, w' = w.drewN nq := by
  go_enter Try.func32, Try.ntmps32
  go_wp2_with (go_at_call 47; refine (room_no h hl).mono ?_; rintro e w' ⟨rfl, nq, rfl⟩)
  go_ret
  exact ⟨rfl, _, rfl⟩

set_option maxHeartbeats 1000000 in
theorem push_ok {w : World} {b g S f : Nat} {l : List ByteArray} (h : IsR w b g S f l) (hl : l.length < S) (x : ByteArray) :
    Calls Try.prog 32 #[.pointer (some ⟨b, 0, none⟩), .string x] w fun e w' => e = .returned (.int .i64 0) ∧ IsR w' b g S ((f + (S - 1)) % S) (x :: l) ∧ FrR b g w w' := by
  have c0 := cell_at h.blk 0
  have c1 := cell_at h.blk 1
  have c2 := cell_at h.blk 2
  have f1 := free_at h.blk 1
  have f2 := free_at h.blk 2
  simp at c0 c1 c2
  have hm := Nat.mod_lt (f + (S - 1)) (show 0 < S by omega)
  obtain ⟨u, g1, g2⟩ := h.slots _ hm
  obtain ⟨j, hj⟩ : ∃ j, (f + (S - 1)) % S = j := ⟨_, rfl⟩
  rw [hj] at hm g1 g2
  have HJ := hide hj
  clear hj
  have hmost := h.most
  have hne := h.ne
  have hne' : g ≠ b := fun e => hne e.symm
  have hI : (j : Int) < (S : Int) := by omega
  have HS1 : Hid ((S : Int) - 1 = ((S - 1 : Nat) : Int)) := hide (by omega)
  go_enter Try.func32, Try.ntmps32
  go_wp2_with (first | (go_at_call 47; refine (room_ok h hl).mono ?_; rintro e w' ⟨rfl, nq, rfl⟩) | (go_at_call 48; rw [unhide HS1]; refine (slot_at (h.drewN _) (S - 1) j (by omega) HJ).mono ?_; rintro e w' ⟨rfl, nq2, rfl⟩))
  go_region_with (fail)
  all_goals
    go_wp2
    go_ret
    have hP := (h.drewN (nq + nq2)).push hl x
    rw [HJ.out] at hP ⊢
    exact ⟨rfl, hP.same rfl, (push_fr w b g (nq + nq2) j _ _ _).congr rfl rfl rfl rfl⟩

set_option maxHeartbeats 1000000 in
theorem at_none {w : World} {b g S f : Nat} {l : List ByteArray} (h : IsR w b g S f l) (i : Int) (hi : i < 0 ∨ i ≥ l.length) :
    Calls Try.prog 51 #[.pointer (some ⟨b, 0, none⟩), .int .i64 i] w fun e w' => e = .returned (.tuple #[.string ⟨#[]⟩, .bool false]) ∧ w = w' := by
  rcases Int.lt_or_le i 0 with hi0 | hi0
  · go_enter Try.func51, Try.ntmps51
    go_wp2
    go_ret2
    exact ⟨rfl, rfl⟩
  · have hi1 : i ≥ l.length := by omega
    clear hi
    go_enter Try.func51, Try.ntmps51
    go_wp2_with (go_at_call 38; refine (len_calls h).mono ?_; rintro e w' ⟨rfl, rfl⟩)
    go_ret2
    exact ⟨rfl, rfl⟩

set_option maxHeartbeats 1000000 in
theorem at_some {w : World} {b g S f : Nat} {l : List ByteArray} (h : IsR w b g S f l) (i : Nat) (x : ByteArray) (hx : l[i]? = some x) :
    Calls Try.prog 51 #[.pointer (some ⟨b, 0, none⟩), .int .i64 (i : Int)] w fun e w' => e = .returned (.tuple #[.string x, .bool true]) ∧ ∃ nq, w' = w.drewN nq := by
  have c0 := cell_at h.blk 0
  simp at c0
  have hil := (List.getElem?_eq_some_iff.1 hx).1
  have hlen := h.len
  have hm := Nat.mod_lt (f + i) (show 0 < S by omega)
  have g1 := h.thing hx
  obtain ⟨j, hj⟩ : ∃ j, (f + i) % S = j := ⟨_, rfl⟩
  rw [hj] at hm g1
  have HJ := hide hj
  clear hj hx
  have hmost := h.most
  have hI : (j : Int) < (S : Int) := by omega
  have hI2 : (i : Int) < (l.length : Int) := by omega
  go_enter Try.func51, Try.ntmps51
  go_wp2_with (go_at_call 38; refine (len_calls h).mono ?_; rintro e w' ⟨rfl, rfl⟩)
  go_region_with (go_at_call 48; refine (slot_at (h.drewN _) i j (by omega) HJ).mono ?_; rintro e w' ⟨rfl, nq2, rfl⟩)
  all_goals
    go_wp2
    go_ret2
    exact ⟨rfl, _, rfl⟩

set_option maxHeartbeats 1000000 in
theorem wipe_calls {w : World} {b g S f : Nat} {l : List ByteArray} (h : IsR w b g S f l) (i j : Nat) (hi : i ≤ 4096) (hj : (f + i) % S = j) :
    Calls Try.prog 52 #[.pointer (some ⟨b, 0, none⟩), .int .i64 (i : Int)] w fun e w' => e = .returned (.tuple #[]) ∧ ∃ nq, w' = (w.drewN nq).setCell ⟨g, j, none⟩ (.string ⟨#[]⟩) := by
  have c0 := cell_at h.blk 0
  simp at c0
  have hpos := h.pos
  have hm := Nat.mod_lt (f + i) (show 0 < S by omega)
  rw [hj] at hm
  obtain ⟨u, g1, g2⟩ := h.slots _ hm
  have HJ := hide hj
  clear hj
  have hmost := h.most
  have hI : (j : Int) < (S : Int) := by omega
  go_enter Try.func52, Try.ntmps52
  go_wp2
  go_region_with (go_at_call 48; refine (slot_at (h.drewN _) i j (by omega) HJ).mono ?_; rintro e w' ⟨rfl, nq2, rfl⟩)
  all_goals
    go_wp2
    go_end0
    exact ⟨rfl, _, rfl⟩


set_option maxHeartbeats 1000000 in
theorem take_none {w : World} {b g S f : Nat} (h : IsR w b g S f []) :
    Calls Try.prog 34 #[.pointer (some ⟨b, 0, none⟩)] w fun e w' => e = .returned (.tuple #[.string ⟨#[]⟩, .bool false]) ∧ w = w' := by
  go_enter Try.func34, Try.ntmps34
  go_wp2_with (go_at_call 51; refine (at_none h 0 (.inr (by simp))).mono ?_; rintro e w' ⟨rfl, rfl⟩)
  go_ret2
  exact ⟨rfl, rfl⟩

/-- where a thing stands, behind a store into a slot -/
theorem slot_wiped {w : World} {b g S f : Nat} {l : List ByteArray} (h : IsR w b g S f l) (k : Nat) (u : Value) (i j : Nat) (hi : i ≤ 4096) (hj : Hid ((f + i) % S = j)) :
    Calls Try.prog 48 #[.pointer (some ⟨b, 0, none⟩), .int .i64 (i : Int)] (w.setCell ⟨g, k, none⟩ u) fun e w' => e = .returned (.int .i64 (j : Int)) ∧ ∃ nq, w' = (w.setCell ⟨g, k, none⟩ u).drewN nq := by
  have hf := Fr.set1 w g k u
  have c0 := cell_at (hf.blk h.blk h.ne) 0
  have c1 := cell_at (hf.blk h.blk h.ne) 1
  simp at c0 c1
  have h1 := h.pos
  have h2 := h.most
  have hS : ((S : Int) == 0) = false := by simp; omega
  rw [← hj.out]
  go_enter Try.func48, Try.ntmps48
  go_wp2
  go_quiet (fail)
  go_wp2
  go_ret
  refine ⟨?_, _, rfl⟩
  congr 2

set_option maxHeartbeats 1000000 in
theorem take_some {w : World} {b g S f : Nat} {x : ByteArray} {l : List ByteArray} (h : IsR w b g S f (x :: l)) :
    Calls Try.prog 34 #[.pointer (some ⟨b, 0, none⟩)] w fun e w' => e = .returned (.tuple #[.string x, .bool true]) ∧ IsR w' b g S ((f + 1) % S) l ∧ FrR b g w w' := by
  have c0 := cell_at h.blk 0
  have c1 := cell_at h.blk 1
  have c2 := cell_at h.blk 2
  have f1 := free_at h.blk 1
  have f2 := free_at h.blk 2
  simp at c0 c1 c2
  have hne := h.ne
  have hne' : g ≠ b := fun e => hne e.symm
  have hlen := h.len
  have hmost := h.most
  simp only [List.length_cons] at hlen
  obtain ⟨j, hj⟩ : ∃ j, (f + 1) % S = j := ⟨_, rfl⟩
  obtain ⟨i, hi⟩ : ∃ i, (f + 0) % S = i := ⟨_, rfl⟩
  have HI := hide hi
  have HJ := hide hj
  clear hi hj
  go_enter Try.func34, Try.ntmps34
  go_wp2_with (first | (go_at_call 51; refine (at_some h 0 x rfl).mono ?_; rintro e w' ⟨rfl, nq, rfl⟩) | (go_at_call 52; refine (wipe_calls (h.drewN nq) 0 i (by omega) (unhide HI)).mono ?_; rintro e w' ⟨rfl, nq2, rfl⟩) | (go_at_call 48; refine (slot_wiped (h.drewN _) i (.string ⟨#[]⟩) 1 j (by omega) HJ).mono ?_; rintro e w' ⟨rfl, nq3, rfl⟩))
  all_goals
    go_ret2
    have hP := (h.drewN (nq + nq2)).take (.string ⟨#[]⟩)
    rw [unhide HJ, unhide HI] at hP
    exact ⟨rfl, by rw [unhide HJ]; exact hP.same rfl, (take_fr w b g (nq + nq2) nq3 i _ _ _).congr rfl rfl rfl rfl⟩

set_option maxHeartbeats 1000000 in
theorem pop_none {w : World} {b g S f : Nat} (h : IsR w b g S f []) :
    Calls Try.prog 36 #[.pointer (some ⟨b, 0, none⟩)] w fun e w' => e = .returned (.tuple #[.string ⟨#[]⟩, .bool false]) ∧ w = w' := by
  go_enter Try.func36, Try.ntmps36
  go_wp2_with (first | (go_at_call 38; refine (len_calls h).mono ?_; rintro e w' ⟨rfl, rfl⟩) | (go_at_call 51; refine (at_none h (-1) (.inl (by omega))).mono ?_; rintro e w' ⟨rfl, rfl⟩))
  go_ret2
  exact ⟨rfl, rfl⟩

set_option maxHeartbeats 1000000 in
theorem pop_some {w : World} {b g S f : Nat} {x : ByteArray} {l : List ByteArray} (h : IsR w b g S f (l ++ [x])) :
    Calls Try.prog 36 #[.pointer (some ⟨b, 0, none⟩)] w fun e w' => e = .returned (.tuple #[.string x, .bool true]) ∧ IsR w' b g S f l ∧ FrR b g w w' := by
  have c0 := cell_at h.blk 0
  have c2 := cell_at h.blk 2
  have f2 := free_at h.blk 2
  simp at c0 c2
  have hne := h.ne
  have hne' : g ≠ b := fun e => hne e.symm
  have hlen := h.len
  have hmost := h.most
  simp only [List.length_append, List.length_singleton] at hlen
  obtain ⟨i, hi⟩ : ∃ i, (f + l.length) % S = i := ⟨_, rfl⟩
  have HI := hide hi
  have HX : Hid ((l ++ [x])[l.length]? = some x) := hide (by simp)
  clear hi
  go_enter Try.func36, Try.ntmps36
  go_wp2_with (first | (go_at_call 38; refine (len_calls h).mono ?_; rintro e w' ⟨rfl, rfl⟩) | (go_at_call 51; refine (at_some h l.length x (unhide HX)).mono ?_; rintro e w' ⟨rfl, nq, rfl⟩) | (go_at_call 52; refine (wipe_calls (h.drewN nq) l.length i (by omega) (unhide HI)).mono ?_; rintro e w' ⟨rfl, nq2, rfl⟩))
  all_goals
    go_ret2
    have hP := (h.drewN (nq + nq2)).pop (.string ⟨#[]⟩)
    rw [unhide HI] at hP
    exact ⟨rfl, hP.same rfl, (pop_fr w b g (nq + nq2) i _ _).congr rfl rfl rfl rfl⟩

/-- a ring whose first slot isn't told -/
def Rg (w : World) (b g S : Nat) (l : List ByteArray) : Prop := ∃ f, IsR w b g S f l

theorem Rg.fr {P : Nat → Prop} {w w' : World} {b g S : Nat} {l : List ByteArray} (h : Rg w b g S l) (hf : Fr P w w') (hb : ¬ P b) (hg : ¬ P g) : Rg w' b g S l := h.elim fun f h => ⟨f, h.fr hf hb hg⟩
theorem Rg.drewN {w : World} {b g S : Nat} {l : List ByteArray} (h : Rg w b g S l) (n : Nat) : Rg (w.drewN n) b g S l := h.elim fun f h => ⟨f, h.drewN n⟩
theorem Rg.len {w : World} {b g S : Nat} {l : List ByteArray} (h : Rg w b g S l) : l.length ≤ S := h.elim fun f h => h.len
theorem Rg.most {w : World} {b g S : Nat} {l : List ByteArray} (h : Rg w b g S l) : S ≤ 4096 := h.elim fun f h => h.most

def putL (S : Nat) (l : List ByteArray) (x : ByteArray) : List ByteArray := if l.length < S then l ++ [x] else l
def pushL (S : Nat) (l : List ByteArray) (x : ByteArray) : List ByteArray := if l.length < S then x :: l else l
def putC (S n : Nat) : Int := if n < S then 0 else 7

theorem rput {w : World} {b g S : Nat} {l : List ByteArray} (h : Rg w b g S l) (x : ByteArray) :
    Calls Try.prog 30 #[.pointer (some ⟨b, 0, none⟩), .string x] w fun e w' => e = .returned (.int .i64 (putC S l.length)) ∧ Rg w' b g S (putL S l x) ∧ FrR b g w w' := by
  obtain ⟨f, h⟩ := h
  unfold putC putL
  by_cases hl : l.length < S
  · rw [if_pos hl, if_pos hl]
    exact (put_ok h hl x).mono fun e w' ⟨h1, h2, h3⟩ => ⟨h1, ⟨_, h2⟩, h3⟩
  · rw [if_neg hl, if_neg hl]
    refine (put_full h (by have := h.len; omega) x).mono ?_
    rintro e w' ⟨rfl, nq, rfl⟩
    exact ⟨rfl, ⟨f, h.drewN nq⟩, (Fr.refl _ w).drewN nq⟩

theorem rpush {w : World} {b g S : Nat} {l : List ByteArray} (h : Rg w b g S l) (x : ByteArray) :
    Calls Try.prog 32 #[.pointer (some ⟨b, 0, none⟩), .string x] w fun e w' => e = .returned (.int .i64 (putC S l.length)) ∧ Rg w' b g S (pushL S l x) ∧ FrR b g w w' := by
  obtain ⟨f, h⟩ := h
  unfold putC pushL
  by_cases hl : l.length < S
  · rw [if_pos hl, if_pos hl]
    exact (push_ok h hl x).mono fun e w' ⟨h1, h2, h3⟩ => ⟨h1, ⟨_, h2⟩, h3⟩
  · rw [if_neg hl, if_neg hl]
    refine (push_full h (by have := h.len; omega) x).mono ?_
    rintro e w' ⟨rfl, nq, rfl⟩
    exact ⟨rfl, ⟨f, h.drewN nq⟩, (Fr.refl _ w).drewN nq⟩

theorem rtake_some {w : World} {b g S : Nat} {x : ByteArray} {l : List ByteArray} (h : Rg w b g S (x :: l)) :
    Calls Try.prog 34 #[.pointer (some ⟨b, 0, none⟩)] w fun e w' => e = .returned (.tuple #[.string x, .bool true]) ∧ Rg w' b g S l ∧ FrR b g w w' := by
  obtain ⟨f, h⟩ := h
  exact (take_some h).mono fun e w' ⟨h1, h2, h3⟩ => ⟨h1, ⟨_, h2⟩, h3⟩

theorem rtake_none {w : World} {b g S : Nat} (h : Rg w b g S []) :
    Calls Try.prog 34 #[.pointer (some ⟨b, 0, none⟩)] w fun e w' => e = .returned (.tuple #[.string ⟨#[]⟩, .bool false]) ∧ Rg w' b g S [] ∧ FrR b g w w' := by
  obtain ⟨f, h⟩ := h
  refine (take_none h).mono ?_
  rintro e w' ⟨rfl, rfl⟩
  exact ⟨rfl, ⟨f, h⟩, Fr.refl _ _⟩

theorem rpop_some {w : World} {b g S : Nat} {x : ByteArray} {l : List ByteArray} (h : Rg w b g S (l ++ [x])) :
    Calls Try.prog 36 #[.pointer (some ⟨b, 0, none⟩)] w fun e w' => e = .returned (.tuple #[.string x, .bool true]) ∧ Rg w' b g S l ∧ FrR b g w w' := by
  obtain ⟨f, h⟩ := h
  exact (pop_some h).mono fun e w' ⟨h1, h2, h3⟩ => ⟨h1, ⟨_, h2⟩, h3⟩

theorem rpop_none {w : World} {b g S : Nat} (h : Rg w b g S []) :
    Calls Try.prog 36 #[.pointer (some ⟨b, 0, none⟩)] w fun e w' => e = .returned (.tuple #[.string ⟨#[]⟩, .bool false]) ∧ Rg w' b g S [] ∧ FrR b g w w' := by
  obtain ⟨f, h⟩ := h
  refine (pop_none h).mono ?_
  rintro e w' ⟨rfl, rfl⟩
  exact ⟨rfl, ⟨f, h⟩, Fr.refl _ _⟩

theorem rlen {w : World} {b g S n : Nat} {l : List ByteArray} (h : Rg w b g S l) (hn : Hid (l.length = n)) :
    Calls Try.prog 38 #[.pointer (some ⟨b, 0, none⟩)] w fun e w' => e = .returned (.int .i64 (n : Int)) ∧ w = w' := by
  obtain ⟨f, h⟩ := h
  rw [← hn.out]; exact len_calls h

theorem rnew (n : Int) (w : World) :
    Calls Try.prog 28 #[.int .i64 n] w fun e w' => e = .returned (.pointer (some ⟨w.heap.size + 1, 0, none⟩)) ∧ Rg w' (w.heap.size + 1) w.heap.size (clamp n) [] ∧ Fr (fun _ => False) w w' :=
  (rnew_calls n w).mono fun e w' ⟨h1, h2, h3⟩ => ⟨h1, ⟨0, h2⟩, h3⟩

theorem rput_ok {w : World} {b g S : Nat} {l : List ByteArray} (h : Rg w b g S l) (hl : l.length < S) (x : ByteArray) :
    Calls Try.prog 30 #[.pointer (some ⟨b, 0, none⟩), .string x] w fun e w' => e = .returned (.int .i64 0) ∧ Rg w' b g S (l ++ [x]) ∧ FrR b g w w' := by
  have := rput h x; unfold putC putL at this; rwa [if_pos hl, if_pos hl] at this

theorem rput_full {w : World} {b g S : Nat} {l : List ByteArray} (h : Rg w b g S l) (hl : ¬ l.length < S) (x : ByteArray) :
    Calls Try.prog 30 #[.pointer (some ⟨b, 0, none⟩), .string x] w fun e w' => e = .returned (.int .i64 7) ∧ Rg w' b g S l ∧ FrR b g w w' := by
  have := rput h x; unfold putC putL at this; rwa [if_neg hl, if_neg hl] at this

theorem rpush_ok {w : World} {b g S : Nat} {l : List ByteArray} (h : Rg w b g S l) (hl : l.length < S) (x : ByteArray) :
    Calls Try.prog 32 #[.pointer (some ⟨b, 0, none⟩), .string x] w fun e w' => e = .returned (.int .i64 0) ∧ Rg w' b g S (x :: l) ∧ FrR b g w w' := by
  have := rpush h x; unfold putC pushL at this; rwa [if_pos hl, if_pos hl] at this

theorem rpush_full {w : World} {b g S : Nat} {l : List ByteArray} (h : Rg w b g S l) (hl : ¬ l.length < S) (x : ByteArray) :
    Calls Try.prog 32 #[.pointer (some ⟨b, 0, none⟩), .string x] w fun e w' => e = .returned (.int .i64 7) ∧ Rg w' b g S l ∧ FrR b g w w' := by
  have := rpush h x; unfold putC pushL at this; rwa [if_neg hl, if_neg hl] at this

theorem rput' {w : World} {b g S : Nat} {l l' : List ByteArray} {x : ByteArray} {c : Int} (h : Rg w b g S l) (hc : putC S l.length = c) (hl : putL S l x = l') :
    Calls Try.prog 30 #[.pointer (some ⟨b, 0, none⟩), .string x] w fun e w' => e = .returned (.int .i64 c) ∧ Rg w' b g S l' ∧ FrR b g w w' := by
  subst hc hl; exact rput h x

end Go.Proofs.Ytkojdjeiblknhaa.Rs
