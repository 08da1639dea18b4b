/-
  A ring of numbers: its memory, and what its calls do to it.
-/
import Derived.Test.YtanmhjnelhjejaaProg
import Derived.Test.YtanmhjnelhjejaaKit
import Derived.Laws.MakeOwn
import Derived.Deep.QuietTactic
import Derived.BigQuiet
import Derived.RegionTactic
import Derived.Deep.DeepFit
namespace Go.Proofs.Ytanmhjnelhjejaa
open Go.RowKit
set_option linter.unusedVariables false
set_option maxRecDepth 8192

/-- the ring at block b, its slots in block g: S of them, the first thing in slot f, the things l -/
structure IsR (w : World) (b g S f : Nat) (l : List Int) : Prop where
  blk : w.heap[b]? = some (.cells #[.slice (some ⟨g, 0, none⟩) S S, .int .i64 (f : Int), .int .i64 (l.length : Int)] 64 (0, 0))
  row : ∃ cs : Array Value, w.heap[g]? = some (.cells cs 3 (0, 0)) ∧ cs.size = S ∧ ∀ i x, l[i]? = some x → cs[(f + i) % S]? = some (.int .i64 x)
  pos : f < S
  len : l.length ≤ S
  most : S ≤ 4096
  ne : b ≠ g

theorem IsR.fr {P : Nat → Prop} {w w' : World} {b g S f : Nat} {l : List Int} (h : IsR w b g S f l) (hf : Fr P w w') (hb : ¬ P b) (hg : ¬ P g) : IsR w' b g S f l := by
  obtain ⟨cs, h1, h2⟩ := h.row
  exact ⟨hf.blk h.blk hb, ⟨cs, hf.blk h1 hg, h2⟩, h.pos, h.len, h.most, h.ne⟩

theorem IsR.drewN {w : World} {b g S f : Nat} {l : List Int} (h : IsR w b g S f l) (n : Nat) : IsR (w.drewN n) b g S f l := ⟨h.blk, h.row, h.pos, h.len, h.most, h.ne⟩

def clamp (n : Int) : Nat := (min (max n 1) 4096).toNat

theorem clamp_pos (n : Int) : 0 < clamp n := by unfold clamp; omega
theorem clamp_most (n : Int) : clamp n ≤ 4096 := by unfold clamp; omega
theorem clamp_eq (n : Int) : ((clamp n : Nat) : Int) = min (max n 1) 4096 := by unfold clamp; omega

theorem Try.infoInt : (Try.prog.info? 3).map (fun i => (i.zero, i.size, i.bytes)) = some (some (.int .i64 0), 1, 8) := by kernel_rfl

/-- 'make([]T, n)': a new block of n times so many cells. -/
theorem wpList_make_z {P : Program} (w : World) {ops : Array Oper} {rest : List Oper} {o : Oper} {a : Act} {Q : Exit → Act → World → Prop}
    (hg : o.guard = none) (l c : Operand) (t : TypeId) (hop : o.op = Op.makeSlice t l c)
    (e : TypeId) (z : Value) (sz bytes : Nat) (h1 : P.underlying t = some (.slice e)) (hin : (P.info? e).map (fun i => (i.zero, i.size, i.bytes)) = some (some z, sz, bytes))
    (kl kc : IntKind) (n : Nat) (m m' : Int) (hl : a.eval l = .int kl m) (hc : a.eval c = .int kc m') (hm : m = n) (hm' : m' = n) (b2 : bytes * n ≤ 281474976710656) (b3 : n ≤ maxLen)
    (hK : ∀ cs : Array Value, cs.size = n * sz → wpList P ops Q rest (a.put o.dst (.slice (some ⟨w.heap.size, 0, none⟩) n n)) (w.alloc (.cells cs e))) :
    wpList P ops Q (o :: rest) a w := by
  subst hm hm'
  obtain ⟨i, h2, h3, h4, h5⟩ := info_parts hin
  refine wpList_plain hg fun K hK' => ?_
  have h63 : (n : Int) ≤ 9223372036854775807 := by simp only [maxLen] at b3; omega
  have hb : (i.bytes : Int) * (n : Int) ≤ 281474976710656 := by
    rw [h5]
    have h : ((bytes * n : Nat) : Int) ≤ 281474976710656 := by omega
    rwa [Int.natCast_mul] at h
  have hr := run_make (P := P) w t e i z h1 h2 h3 kl kc n n (by omega) (Int.le_refl _) hb h63
  simp only [Int.toNat_natCast] at hr
  unfold Oper.wp
  simp [execOp, hop, hl, hc, hr, Result.andThen]
  exact hK' _ _ (hK _ (by rw [size_madeCells, h4]))

set_option maxHeartbeats 400000 in
theorem rnew_calls (n : Int) (w : World) :
    Calls Try.prog 10 #[.int .i64 n] w fun e w' => e = .returned (.pointer (some ⟨w.heap.size + 1, 0, none⟩)) ∧ IsR w' (w.heap.size + 1) w.heap.size (clamp n) 0 [] ∧ Fr (fun _ => False) w w' := by
  have h1 := clamp_eq n
  have h2 := clamp_pos n
  have h3 := clamp_most n
  go_enter Try.func10, Try.ntmps10
  go_wp2_with (at_make; refine wpList_make_z _ rfl _ _ 29 rfl 3 (.int .i64 0) 1 8 Try.underlying29 Try.infoInt _ _ (clamp n) _ _ rfl rfl (by omega) (by omega) (by omega) (by unfold maxLen; omega) ?_; intro cs hcs)
  all_goals
    go_ret
    have hf : Fr (fun _ => False) w (w.alloc (.cells cs 3)) := (Fr.refl _ w).alloc _
    exact ⟨by simp, ⟨by have := blk_new (w.alloc (.cells cs 3)) (.cells #[.slice (some ⟨w.heap.size, 0, none⟩) (clamp n) (clamp n), .int .i64 0, .int .i64 0] 64); simpa using this, ⟨cs, blk_alloc (blk_new _ _), by omega, fun i x hx => by simp at hx⟩, h2, by simp, h3, by omega⟩, hf.alloc _⟩

set_option maxHeartbeats 400000 in
theorem slot_calls {w : World} {b g S f : Nat} {l : List Int} (h : IsR w b g S f l) (i : Nat) (hi : i ≤ 4096) :
    Calls Try.prog 41 #[.pointer (some ⟨b, 0, none⟩), .int .i64 (i : Int)] w fun e w' => e = .returned (.int .i64 (((f + i) % S : Nat) : Int)) ∧ ∃ nq, w' = w.drewN nq := by
  have c0 := cell_at h.blk 0
  have c1 := cell_at h.blk 1
  simp at c0 c1
  have h1 := h.pos
  have h2 := h.most
  have hS : ((S : Int) == 0) = false := by simp; omega
  go_enter Try.func41, Try.ntmps41
  go_wp2
  go_quiet (fail)
  go_wp2
  go_ret
  refine ⟨?_, _, rfl⟩
  congr 2

set_option maxHeartbeats 400000 in
theorem room_no {w : World} {b g S f : Nat} {l : List Int} (h : IsR w b g S f l) (hl : l.length = S) :
    Calls Try.prog 40 #[.pointer (some ⟨b, 0, none⟩)] w fun e w' => e = .returned (.int .i64 7) ∧ ∃ nq, w' = w.drewN nq := by
  have c0 := cell_at h.blk 0
  have c2 := cell_at h.blk 2
  simp at c0 c2
  rw [hl] at c2
  go_enter Try.func40, Try.ntmps40
  go_wp2
  go_quiet (fail)
  go_wp2
  go_ret
  exact ⟨rfl, _, rfl⟩

set_option maxHeartbeats 400000 in
theorem room_ok {w : World} {b g S f : Nat} {l : List Int} (h : IsR w b g S f l) (hl : l.length < S) :
    Calls Try.prog 40 #[.pointer (some ⟨b, 0, none⟩)] w fun e w' => e = .returned (.int .i64 0) ∧ ∃ nq, w' = w.drewN nq := by
  have c0 := cell_at h.blk 0
  have c2 := cell_at h.blk 2
  simp at c0 c2
  have hne : ((l.length : Int) == (S : Int)) = false := by simp; omega
  go_enter Try.func40, Try.ntmps40
  go_wp2
  go_quiet (fail)
  go_wp2
  go_ret
  exact ⟨rfl, _, rfl⟩

set_option maxHeartbeats 400000 in
theorem len_calls {w : World} {b g S f : Nat} {l : List Int} (h : IsR w b g S f l) :
    Calls Try.prog 22 #[.pointer (some ⟨b, 0, none⟩)] w fun e w' => e = .returned (.int .i64 (l.length : Int)) ∧ w = w' := by
  have c2 := cell_at h.blk 2
  simp at c2
  go_enter Try.func22, Try.ntmps22
  go_wp2
  go_ret
  exact ⟨rfl, rfl⟩

set_option maxHeartbeats 400000 in
theorem size_calls {w : World} {b g S f : Nat} {l : List Int} (h : IsR w b g S f l) :
    Calls Try.prog 12 #[.pointer (some ⟨b, 0, none⟩)] w fun e w' => e = .returned (.int .i64 (S : Int)) ∧ w = w' := by
  have c0 := cell_at h.blk 0
  simp at c0
  go_enter Try.func12, Try.ntmps12
  go_wp2
  go_ret
  exact ⟨rfl, rfl⟩

theorem mod_ne {S f i j : Nat} (hi : i < S) (hj : j < S) (h : (f + i) % S = (f + j) % S) : i = j := by
  have h1 := Nat.mod_add_div (f + i) S
  have h2 := Nat.mod_add_div (f + j) S
  have hS : 0 < S := by omega
  have h3 : (f + i) / S = (f + j) / S := by
    rcases Nat.lt_trichotomy ((f + i) / S) ((f + j) / S) with hc | hc | hc
    · have : S * ((f + i) / S + 1) ≤ S * ((f + j) / S) := Nat.mul_le_mul_left _ hc
      rw [Nat.mul_add] at this; omega
    · exact hc
    · have : S * ((f + j) / S + 1) ≤ S * ((f + i) / S) := Nat.mul_le_mul_left _ hc
      rw [Nat.mul_add] at this; omega
  rw [h3] at h1
  omega

theorem IsR.slots {w : World} {b g S f : Nat} {l : List Int} (h : IsR w b g S f l) (j : Nat) (hj : j < S) : ∃ u, w.cell? ⟨g, j, none⟩ = some u ∧ w.frozen? ⟨g, j, none⟩ = false := by
  obtain ⟨cs, h1, h2, _⟩ := h.row
  exact ⟨cs[j], by rw [cell_at h1, Array.getElem?_eq_getElem (by omega)], free_at h1 j⟩

theorem IsR.thing {w : World} {b g S f : Nat} {l : List Int} (h : IsR w b g S f l) {i : Nat} {x : Int} (hx : l[i]? = some x) : w.cell? ⟨g, (f + i) % S, none⟩ = some (.int .i64 x) := by
  obtain ⟨cs, h1, h2, h3⟩ := h.row
  rw [cell_at h1]; exact h3 i x hx

/-- a thing laid behind the last one -/
theorem IsR.put {w : World} {b g S f : Nat} {l : List Int} (h : IsR w b g S f l) (hl : l.length < S) (x : Int) :
    IsR ((w.setCell ⟨g, (f + l.length) % S, none⟩ (.int .i64 x)).setCell ⟨b, 2, none⟩ (.int .i64 ((l.length : Int) + 1))) b g S f (l ++ [x]) := by
  obtain ⟨cs, h1, h2, h3⟩ := h.row
  have hS : 0 < S := by omega
  have f1 := Fr.set1 w g ((f + l.length) % S) (.int .i64 x)
  have f2 := Fr.set1 (w.setCell ⟨g, (f + l.length) % S, none⟩ (.int .i64 x)) b 2 (.int .i64 ((l.length : Int) + 1))
  have b1 := f1.blk h.blk h.ne
  refine ⟨by rw [blk_setCell b1]; simp, ⟨_, f2.blk (blk_setCell h1) (fun e => h.ne e.symm), by simpa using h2, fun i y hy => ?_⟩, h.pos, by simp; omega, h.most, h.ne⟩
  have hm := Nat.mod_lt (f + l.length) hS
  rcases Nat.lt_or_ge i l.length with hi | hi
  · rw [List.getElem?_append_left hi] at hy
    rw [Array.getElem?_setIfInBounds, if_neg (fun e => by have := mod_ne (by omega) (by omega) e; omega)]
    exact h3 i y hy
  · have hlt := (List.getElem?_eq_some_iff.1 hy).1
    simp at hlt
    obtain rfl : i = l.length := by omega
    simp at hy
    subst hy
    rw [Array.getElem?_setIfInBounds, if_pos rfl, if_pos (by omega)]

theorem back_slot {S f : Nat} (hf : f < S) (i : Nat) : ((f + (S - 1)) % S + (i + 1)) % S = (f + i) % S := by
  rw [Nat.mod_add_mod, show f + (S - 1) + (i + 1) = f + i + S by omega, Nat.add_mod_right]

theorem next_slot (S f i : Nat) : ((f + 1) % S + i) % S = (f + (i + 1)) % S := by
  rw [Nat.mod_add_mod, show f + 1 + i = f + (i + 1) by omega]

/-- a thing laid ahead of the first one -/
theorem IsR.push {w : World} {b g S f : Nat} {l : List Int} (h : IsR w b g S f l) (hl : l.length < S) (x : Int) :
    IsR (((w.setCell ⟨b, 1, none⟩ (.int .i64 (((f + (S - 1)) % S : Nat) : Int))).setCell ⟨g, (f + (S - 1)) % S, none⟩ (.int .i64 x)).setCell ⟨b, 2, none⟩ (.int .i64 ((l.length : Int) + 1))) b g S ((f + (S - 1)) % S) (x :: l) := by
  obtain ⟨cs, h1, h2, h3⟩ := h.row
  have hS : 0 < S := by omega
  have hne' : g ≠ b := fun e => h.ne e.symm
  have f0 := Fr.set1 w b 1 (.int .i64 (((f + (S - 1)) % S : Nat) : Int))
  have f1 := Fr.set1 (w.setCell ⟨b, 1, none⟩ (.int .i64 (((f + (S - 1)) % S : Nat) : Int))) g ((f + (S - 1)) % S) (.int .i64 x)
  have f2 := Fr.set1 ((w.setCell ⟨b, 1, none⟩ (.int .i64 (((f + (S - 1)) % S : Nat) : Int))).setCell ⟨g, (f + (S - 1)) % S, none⟩ (.int .i64 x)) b 2 (.int .i64 ((l.length : Int) + 1))
  have b1 := f1.blk (blk_setCell h.blk) h.ne
  have hm := Nat.mod_lt (f + (S - 1)) hS
  refine ⟨by rw [blk_setCell b1]; simp, ⟨_, f2.blk (blk_setCell (f0.blk h1 hne')) hne', by simpa using h2, fun i y hy => ?_⟩, hm, by simp; omega, h.most, h.ne⟩
  rcases i with _ | i
  · simp at hy
    subst hy
    rw [Nat.add_zero, Nat.mod_mod, Array.getElem?_setIfInBounds, if_pos rfl, if_pos (by omega)]
  · simp at hy
    have hlt := (List.getElem?_eq_some_iff.1 hy).1
    rw [back_slot h.pos, Array.getElem?_setIfInBounds, if_neg (fun e => by have := mod_ne (by omega) (by omega) e; omega)]
    exact h3 i y hy

/-- the first one left -/
theorem IsR.take {w : World} {b g S f : Nat} {x : Int} {l : List Int} (h : IsR w b g S f (x :: l)) (u : Value) :
    IsR (((w.setCell ⟨g, (f + 0) % S, none⟩ u).setCell ⟨b, 1, none⟩ (.int .i64 (((f + 1) % S : Nat) : Int))).setCell ⟨b, 2, none⟩ (.int .i64 (l.length : Int))) b g S ((f + 1) % S) l := by
  obtain ⟨cs, h1, h2, h3⟩ := h.row
  have hp := h.pos
  have hl := h.len
  simp only [List.length_cons] at hl
  have hne' : g ≠ b := fun e => h.ne e.symm
  have f0 := Fr.set1 w g ((f + 0) % S) u
  have f1 := Fr.set1 (w.setCell ⟨g, (f + 0) % S, none⟩ u) b 1 (.int .i64 (((f + 1) % S : Nat) : Int))
  have f2 := Fr.set1 ((w.setCell ⟨g, (f + 0) % S, none⟩ u).setCell ⟨b, 1, none⟩ (.int .i64 (((f + 1) % S : Nat) : Int))) b 2 (.int .i64 (l.length : Int))
  have hm := Nat.mod_lt (f + 1) (show 0 < S by omega)
  refine ⟨by rw [blk_setCell (blk_setCell (f0.blk h.blk h.ne))]; simp, ⟨_, f2.blk (f1.blk (blk_setCell h1) hne') hne', by simpa using h2, fun i y hy => ?_⟩, hm, by omega, h.most, h.ne⟩
  have hlt := (List.getElem?_eq_some_iff.1 hy).1
  rw [next_slot, Array.getElem?_setIfInBounds, if_neg (fun e => by have := mod_ne (S := S) (f := f) (i := 0) (j := i + 1) (by omega) (by omega) e; omega)]
  exact h3 (i + 1) y (by simpa using hy)

/-- the last one left -/
theorem IsR.pop {w : World} {b g S f : Nat} {x : Int} {l : List Int} (h : IsR w b g S f (l ++ [x])) (u : Value) :
    IsR ((w.setCell ⟨g, (f + l.length) % S, none⟩ u).setCell ⟨b, 2, none⟩ (.int .i64 (l.length : Int))) b g S f l := by
  obtain ⟨cs, h1, h2, h3⟩ := h.row
  have hp := h.pos
  have hl := h.len
  simp only [List.length_append, List.length_singleton] at hl
  have hne' : g ≠ b := fun e => h.ne e.symm
  have f0 := Fr.set1 w g ((f + l.length) % S) u
  have f2 := Fr.set1 (w.setCell ⟨g, (f + l.length) % S, none⟩ u) b 2 (.int .i64 (l.length : Int))
  refine ⟨by rw [blk_setCell (f0.blk h.blk h.ne)]; simp, ⟨_, f2.blk (blk_setCell h1) hne', by simpa using h2, fun i y hy => ?_⟩, hp, by omega, h.most, h.ne⟩
  have hlt := (List.getElem?_eq_some_iff.1 hy).1
  rw [Array.getElem?_setIfInBounds, if_neg (fun e => by have := mod_ne (S := S) (f := f) (by omega) (by omega) e; omega)]
  exact h3 i y (by rw [List.getElem?_append_left hlt]; exact hy)

end Go.Proofs.Ytanmhjnelhjejaa
