/-
  A ring of pairs of numbers: its memory, and what its calls do to it.
-/
import Derived.Test.YtkojdjeiblknhaaRgArr
import Derived.Deep.RegionWith
namespace Go.Proofs.Ytkojdjeiblknhaa.Rp
open Go.RowKit
set_option linter.unusedVariables false
set_option maxRecDepth 8192

theorem infoStr : (Try.prog.info? 54).map (fun i => (i.zero, i.size, i.bytes)) = some (some (.agg #[.int .i64 0, .int .i64 0]), 2, 16) := by kernel_rfl

def pV (x : Int × Int) : Value := .agg #[.int .i64 x.1, .int .i64 x.2]
def set2 (w : World) (g j : Nat) (x : Int × Int) : World := (w.setCell ⟨g, j * 2, none⟩ (.int .i64 x.1)).setCell ⟨g, j * 2 + 1, none⟩ (.int .i64 x.2)
theorem set2_fr (w : World) (g j : Nat) (x : Int × Int) : Fr (fun k => k = g) w (set2 w g j x) := ((Fr.refl (fun k => k = g) w).setAt g _ _ (.inr rfl)).setAt g _ _ (.inr rfl)
theorem set2_blk {w : World} {g : Nat} {cs : Array Value} {t : TypeId} (h : w.heap[g]? = some (.cells cs t (0, 0))) (j : Nat) (x : Int × Int) : (set2 w g j x).heap[g]? = some (.cells ((cs.setIfInBounds (j * 2) (.int .i64 x.1)).setIfInBounds (j * 2 + 1) (.int .i64 x.2)) t (0, 0)) := blk_setCell (blk_setCell h)
/-- slot j of the row holds x -/
def At2 (cs : Array Value) (j : Nat) (x : Int × Int) : Prop := cs[j * 2]? = some (.int .i64 x.1) ∧ cs[j * 2 + 1]? = some (.int .i64 x.2)
theorem at2_same {cs : Array Value} {j S : Nat} (hs : cs.size = S * 2) (hj : j < S) (x : Int × Int) : At2 ((cs.setIfInBounds (j * 2) (.int .i64 x.1)).setIfInBounds (j * 2 + 1) (.int .i64 x.2)) j x := by
  refine ⟨?_, ?_⟩
  · rw [Array.getElem?_setIfInBounds, if_neg (by omega), Array.getElem?_setIfInBounds, if_pos rfl, if_pos (by omega)]
  · rw [Array.getElem?_setIfInBounds, if_pos rfl, if_pos (by simp; omega)]
theorem at2_other {cs : Array Value} {i j : Nat} {x y : Int × Int} (h : At2 cs i y) (hne : j ≠ i) : At2 ((cs.setIfInBounds (j * 2) (.int .i64 x.1)).setIfInBounds (j * 2 + 1) (.int .i64 x.2)) i y := by
  refine ⟨?_, ?_⟩
  · rw [Array.getElem?_setIfInBounds, if_neg (by omega), Array.getElem?_setIfInBounds, if_neg (by omega)]; exact h.1
  · rw [Array.getElem?_setIfInBounds, if_neg (by omega), Array.getElem?_setIfInBounds, if_neg (by omega)]; exact h.2

/-- the ring at block b, its slots in block g: S of them, the first thing in slot f, the things l -/
structure IsR (w : World) (b g S f : Nat) (l : List (Int × Int)) : Prop where
  blk : w.heap[b]? = some (.cells #[.slice (some ⟨g, 0, none⟩) S S, .int .i64 (f : Int), .int .i64 (l.length : Int)] 79 (0, 0))
  row : ∃ cs : Array Value, w.heap[g]? = some (.cells cs 54 (0, 0)) ∧ cs.size = S * 2 ∧ ∀ i x, l[i]? = some x → At2 cs ((f + i) % S) x
  pos : f < S
  len : l.length ≤ S
  most : S ≤ 4096
  ne : b ≠ g

theorem IsR.fr {P : Nat → Prop} {w w' : World} {b g S f : Nat} {l : List (Int × Int)} (h : IsR w b g S f l) (hf : Fr P w w') (hb : ¬ P b) (hg : ¬ P g) : IsR w' b g S f l := by
  obtain ⟨cs, h1, h2⟩ := h.row
  exact ⟨hf.blk h.blk hb, ⟨cs, hf.blk h1 hg, h2⟩, h.pos, h.len, h.most, h.ne⟩

theorem IsR.drewN {w : World} {b g S f : Nat} {l : List (Int × Int)} (h : IsR w b g S f l) (n : Nat) : IsR (w.drewN n) b g S f l := ⟨h.blk, h.row, h.pos, h.len, h.most, h.ne⟩


set_option maxHeartbeats 400000 in
theorem rnew_calls (n : Int) (w : World) :
    Calls Try.prog 29 #[.int .i64 n] w fun e w' => e = .returned (.pointer (some ⟨w.heap.size + 1, 0, none⟩)) ∧ IsR w' (w.heap.size + 1) w.heap.size (clamp n) 0 [] ∧ Fr (fun _ => False) w w' := by
  have h1 := clamp_eq n
  have h2 := clamp_pos n
  have h3 := clamp_most n
  go_enter Try.func29, Try.ntmps29
  go_wp2_with (at_make; refine wpList_make_z _ rfl _ _ 77 rfl 54 (.agg #[.int .i64 0, .int .i64 0]) 2 16 Try.underlying77 infoStr _ _ (clamp n) _ _ rfl rfl (by omega) (by omega) (by omega) (by unfold maxLen; omega) ?_; intro cs hcs)
  all_goals
    go_ret
    have hf : Fr (fun _ => False) w (w.alloc (.cells cs 54)) := (Fr.refl _ w).alloc _
    exact ⟨by simp, ⟨by have := blk_new (w.alloc (.cells cs 54)) (.cells #[.slice (some ⟨w.heap.size, 0, none⟩) (clamp n) (clamp n), .int .i64 0, .int .i64 0] 79); simpa using this, ⟨cs, blk_alloc (blk_new _ _), by omega, fun i x hx => by simp at hx⟩, h2, by simp, h3, by omega⟩, hf.alloc _⟩

set_option maxHeartbeats 400000 in
theorem slot_calls {w : World} {b g S f : Nat} {l : List (Int × Int)} (h : IsR w b g S f l) (i : Nat) (hi : i ≤ 4096) :
    Calls Try.prog 50 #[.pointer (some ⟨b, 0, none⟩), .int .i64 (i : Int)] w fun e w' => e = .returned (.int .i64 (((f + i) % S : Nat) : Int)) ∧ ∃ nq, w' = w.drewN nq := by
  have c0 := cell_at h.blk 0
  have c1 := cell_at h.blk 1
  simp at c0 c1
  have h1 := h.pos
  have h2 := h.most
  have hS : ((S : Int) == 0) = false := by simp; omega
  go_enter Try.func50, Try.ntmps50
  go_wp2
  go_quiet (fail)
  go_wp2
  go_ret
  refine ⟨?_, _, rfl⟩
  congr 2

set_option maxHeartbeats 400000 in
theorem room_no {w : World} {b g S f : Nat} {l : List (Int × Int)} (h : IsR w b g S f l) (hl : l.length = S) :
    Calls Try.prog 49 #[.pointer (some ⟨b, 0, none⟩)] w fun e w' => e = .returned (.int .i64 7) ∧ ∃ nq, w' = w.drewN nq := by
  have c0 := cell_at h.blk 0
  have c2 := cell_at h.blk 2
  simp at c0 c2
  rw [hl] at c2
  go_enter Try.func49, Try.ntmps49
  go_wp2
  go_quiet (fail)
  go_wp2
  go_ret
  exact ⟨rfl, _, rfl⟩

set_option maxHeartbeats 400000 in
theorem room_ok {w : World} {b g S f : Nat} {l : List (Int × Int)} (h : IsR w b g S f l) (hl : l.length < S) :
    Calls Try.prog 49 #[.pointer (some ⟨b, 0, none⟩)] w fun e w' => e = .returned (.int .i64 0) ∧ ∃ nq, w' = w.drewN nq := by
  have c0 := cell_at h.blk 0
  have c2 := cell_at h.blk 2
  simp at c0 c2
  have hne : ((l.length : Int) == (S : Int)) = false := by simp; omega
  go_enter Try.func49, Try.ntmps49
  go_wp2
  go_quiet (fail)
  go_wp2
  go_ret
  exact ⟨rfl, _, rfl⟩

set_option maxHeartbeats 400000 in
theorem len_calls {w : World} {b g S f : Nat} {l : List (Int × Int)} (h : IsR w b g S f l) :
    Calls Try.prog 39 #[.pointer (some ⟨b, 0, none⟩)] w fun e w' => e = .returned (.int .i64 (l.length : Int)) ∧ w = w' := by
  have c2 := cell_at h.blk 2
  simp at c2
  go_enter Try.func39, Try.ntmps39
  go_wp2
  go_ret
  exact ⟨rfl, rfl⟩

theorem IsR.slots {w : World} {b g S f : Nat} {l : List (Int × Int)} (h : IsR w b g S f l) (j : Nat) (hj : j < S) : ∃ u u', w.cell? ⟨g, j * 2, none⟩ = some u ∧ w.cell? ⟨g, j * 2 + 1, none⟩ = some u' ∧ w.frozen? ⟨g, j * 2, none⟩ = false ∧ w.frozen? ⟨g, j * 2 + 1, none⟩ = false := by
  obtain ⟨cs, h1, h2, _⟩ := h.row
  exact ⟨cs[j * 2], cs[j * 2 + 1], by rw [cell_at h1, Array.getElem?_eq_getElem (by omega)], by rw [cell_at h1, Array.getElem?_eq_getElem (by omega)], free_at h1 _, free_at h1 _⟩

theorem IsR.thing {w : World} {b g S f : Nat} {l : List (Int × Int)} (h : IsR w b g S f l) {i : Nat} {x : Int × Int} (hx : l[i]? = some x) : w.cell? ⟨g, (f + i) % S * 2, none⟩ = some (.int .i64 x.1) ∧ w.cell? ⟨g, (f + i) % S * 2 + 1, none⟩ = some (.int .i64 x.2) := by
  obtain ⟨cs, h1, h2, h3⟩ := h.row
  rw [cell_at h1, cell_at h1]; exact h3 i x hx

/-- a thing laid behind the last one -/
theorem IsR.put {w : World} {b g S f : Nat} {l : List (Int × Int)} (h : IsR w b g S f l) (hl : l.length < S) (x : Int × Int) :
    IsR ((set2 w g ((f + l.length) % S) x).setCell ⟨b, 2, none⟩ (.int .i64 ((l.length : Int) + 1))) b g S f (l ++ [x]) := by
  obtain ⟨cs, h1, h2, h3⟩ := h.row
  have hS : 0 < S := by omega
  have f2 := Fr.set1 (set2 w g ((f + l.length) % S) x) b 2 (.int .i64 ((l.length : Int) + 1))
  have b1 := (set2_fr w g ((f + l.length) % S) x).blk h.blk h.ne
  refine ⟨by rw [blk_setCell b1]; simp, ⟨_, f2.blk (set2_blk h1 _ x) (fun e => h.ne e.symm), by simpa using h2, fun i y hy => ?_⟩, h.pos, by simp; omega, h.most, h.ne⟩
  have hm := Nat.mod_lt (f + l.length) hS
  rcases Nat.lt_or_ge i l.length with hi | hi
  · rw [List.getElem?_append_left hi] at hy
    exact at2_other (h3 i y hy) (fun e => by have := mod_ne (by omega) (by omega) e; omega)
  · have hlt := (List.getElem?_eq_some_iff.1 hy).1
    simp at hlt
    obtain rfl : i = l.length := by omega
    simp at hy
    subst hy
    exact at2_same h2 hm x

/-- a thing laid ahead of the first one -/
theorem IsR.push {w : World} {b g S f : Nat} {l : List (Int × Int)} (h : IsR w b g S f l) (hl : l.length < S) (x : Int × Int) :
    IsR ((set2 (w.setCell ⟨b, 1, none⟩ (.int .i64 (((f + (S - 1)) % S : Nat) : Int))) g ((f + (S - 1)) % S) x).setCell ⟨b, 2, none⟩ (.int .i64 ((l.length : Int) + 1))) b g S ((f + (S - 1)) % S) (x :: l) := by
  obtain ⟨cs, h1, h2, h3⟩ := h.row
  have hS : 0 < S := by omega
  have hne' : g ≠ b := fun e => h.ne e.symm
  have f0 := Fr.set1 w b 1 (.int .i64 (((f + (S - 1)) % S : Nat) : Int))
  have f1 := set2_fr (w.setCell ⟨b, 1, none⟩ (.int .i64 (((f + (S - 1)) % S : Nat) : Int))) g ((f + (S - 1)) % S) x
  have f2 := Fr.set1 (set2 (w.setCell ⟨b, 1, none⟩ (.int .i64 (((f + (S - 1)) % S : Nat) : Int))) g ((f + (S - 1)) % S) x) b 2 (.int .i64 ((l.length : Int) + 1))
  have b1 := f1.blk (blk_setCell h.blk) h.ne
  have hm := Nat.mod_lt (f + (S - 1)) hS
  refine ⟨by rw [blk_setCell b1]; simp, ⟨_, f2.blk (set2_blk (f0.blk h1 hne') _ x) hne', by simpa using h2, fun i y hy => ?_⟩, hm, by simp; omega, h.most, h.ne⟩
  rcases i with _ | i
  · simp at hy
    subst hy
    rw [show ((f + (S - 1)) % S + 0) % S = (f + (S - 1)) % S by rw [Nat.add_zero, Nat.mod_mod]]
    exact at2_same h2 hm x
  · simp at hy
    have hlt := (List.getElem?_eq_some_iff.1 hy).1
    rw [back_slot h.pos]
    exact at2_other (h3 i y hy) (fun e => by have := mod_ne (by omega) (by omega) e; omega)

/-- the first one left -/
theorem IsR.take {w : World} {b g S f : Nat} {x : Int × Int} {l : List (Int × Int)} (h : IsR w b g S f (x :: l)) (u : Int × Int) :
    IsR (((set2 w g ((f + 0) % S) u).setCell ⟨b, 1, none⟩ (.int .i64 (((f + 1) % S : Nat) : Int))).setCell ⟨b, 2, none⟩ (.int .i64 (l.length : Int))) b g S ((f + 1) % S) l := by
  obtain ⟨cs, h1, h2, h3⟩ := h.row
  have hp := h.pos
  have hl := h.len
  simp only [List.length_cons] at hl
  have hne' : g ≠ b := fun e => h.ne e.symm
  have f0 := set2_fr w g ((f + 0) % S) u
  have f1 := Fr.set1 (set2 w g ((f + 0) % S) u) b 1 (.int .i64 (((f + 1) % S : Nat) : Int))
  have f2 := Fr.set1 ((set2 w g ((f + 0) % S) u).setCell ⟨b, 1, none⟩ (.int .i64 (((f + 1) % S : Nat) : Int))) b 2 (.int .i64 (l.length : Int))
  have hm := Nat.mod_lt (f + 1) (show 0 < S by omega)
  refine ⟨by rw [blk_setCell (blk_setCell (f0.blk h.blk h.ne))]; simp, ⟨_, f2.blk (f1.blk (set2_blk h1 _ u) hne') hne', by simpa using h2, fun i y hy => ?_⟩, hm, by omega, h.most, h.ne⟩
  have hlt := (List.getElem?_eq_some_iff.1 hy).1
  rw [next_slot]
  exact at2_other (h3 (i + 1) y (by simpa using hy)) (fun e => by have := mod_ne (S := S) (f := f) (i := 0) (j := i + 1) (by omega) (by omega) e; omega)

/-- the last one left -/
theorem IsR.pop {w : World} {b g S f : Nat} {x : Int × Int} {l : List (Int × Int)} (h : IsR w b g S f (l ++ [x])) (u : Int × Int) :
    IsR ((set2 w g ((f + l.length) % S) u).setCell ⟨b, 2, none⟩ (.int .i64 (l.length : Int))) b g S f l := by
  obtain ⟨cs, h1, h2, h3⟩ := h.row
  have hp := h.pos
  have hl := h.len
  simp only [List.length_append, List.length_singleton] at hl
  have hne' : g ≠ b := fun e => h.ne e.symm
  have f0 := set2_fr w g ((f + l.length) % S) u
  have f2 := Fr.set1 (set2 w g ((f + l.length) % S) u) b 2 (.int .i64 (l.length : Int))
  refine ⟨by rw [blk_setCell (f0.blk h.blk h.ne)]; simp, ⟨_, f2.blk (set2_blk h1 _ u) hne', by simpa using h2, fun i y hy => ?_⟩, hp, by omega, h.most, h.ne⟩
  have hlt := (List.getElem?_eq_some_iff.1 hy).1
  exact at2_other (h3 i y (by rw [List.getElem?_append_left hlt]; exact hy)) (fun e => by have := mod_ne (S := S) (f := f) (by omega) (by omega) e; omega)

theorem IsR.same {w w' : World} {b g S f : Nat} {l : List (Int × Int)} (h : IsR w b g S f l) (e : w'.heap = w.heap) : IsR w' b g S f l :=
  ⟨by rw [e]; exact h.blk, by rw [e]; exact h.row, h.pos, h.len, h.most, h.ne⟩

end Go.Proofs.Ytkojdjeiblknhaa.Rp
