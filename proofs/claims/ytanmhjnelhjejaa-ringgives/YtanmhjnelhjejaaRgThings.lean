/-
  The copy of a ring's things.
-/
import Derived.Test.YtanmhjnelhjejaaRgCalls
import Derived.Test.YtanmhjnelhjejaaRgNilCalls
import Derived.LoopTactic
namespace Go.Proofs.Ytanmhjnelhjejaa
open Go.RowKit
set_option linter.unusedVariables false
set_option maxRecDepth 8192

/-- block q, of n cells, whose first ones hold l -/
def LB (w : World) (q n : Nat) (l : List Int) : Prop := ∃ cs : Array Value, w.heap[q]? = some (.cells cs 3 (0, 0)) ∧ cs.size = n ∧ ∀ (i : Nat) (x : Int), l[i]? = some x → cs[i]? = some (Value.int .i64 x)

theorem LB.fr {P : Nat → Prop} {w w' : World} {q n : Nat} {l : List Int} (h : LB w q n l) (hf : Fr P w w') (hq : ¬ P q) : LB w' q n l := by
  obtain ⟨cs, h1, h2⟩ := h; exact ⟨cs, hf.blk h1 hq, h2⟩
theorem LB.lt {w : World} {q n : Nat} {l : List Int} (h : LB w q n l) : q < w.heap.size := by obtain ⟨cs, h1, _⟩ := h; exact lt_of_blk h1
theorem LB.old {w : World} {q n : Nat} {l : List Int} (h : LB w q n l) {i : Nat} (hi : i < n) : ∃ u, w.cell? ⟨q, i, none⟩ = some u ∧ w.frozen? ⟨q, i, none⟩ = false := by
  obtain ⟨cs, h1, h2, _⟩ := h
  exact ⟨cs[i], by rw [cell_at h1, Array.getElem?_eq_getElem (by omega)], free_at h1 i⟩
theorem LB.cell {w : World} {q n : Nat} {l : List Int} (h : LB w q n l) {i : Nat} {x : Int} (hx : l[i]? = some x) : w.cell? ⟨q, i, none⟩ = some (.int .i64 x) := by
  obtain ⟨cs, h1, h2, h3⟩ := h; rw [cell_at h1]; exact h3 i x hx
theorem LB.snoc {w : World} {q n k : Nat} {l : List Int} {x : Int} (h : LB w q n (l.take k)) (hx : l[k]? = some x) (hk : k < n) : LB (w.setCell ⟨q, k, none⟩ (.int .i64 x)) q n (l.take (k + 1)) := by
  obtain ⟨cs, h1, h2, h3⟩ := h
  refine ⟨_, blk_setCell h1, by simpa using h2, fun i y hy => ?_⟩
  rw [List.getElem?_take] at hy
  by_cases e : k = i
  · subst e
    rw [if_pos (by omega), hx] at hy
    cases hy
    rw [Array.getElem?_setIfInBounds, if_pos rfl, if_pos (by omega)]
  · rw [Array.getElem?_setIfInBounds, if_neg e]
    refine h3 i y ?_
    rw [List.getElem?_take]
    split at hy
    · rw [if_pos (by omega)]; exact hy
    · cases hy

set_option maxHeartbeats 2000000 in
theorem things_calls {w : World} {b g S f : Nat} {l : List Int} (h : IsR w b g S f l) (hb : b < w.heap.size) (hg : g < w.heap.size) :
    Calls Try.prog 46 #[.pointer (some ⟨b, 0, none⟩)] w fun e w' => e = .returned (.slice (some ⟨w.heap.size, 0, none⟩) l.length l.length) ∧ LB w' w.heap.size l.length l ∧ Fr (fun _ => False) w w' := by
  have hmost := h.most
  have hlen := h.len
  have hpos := h.pos
  obtain ⟨n, hn⟩ : ∃ n, l.length = n := ⟨_, rfl⟩
  have HN := hide hn
  have hnS : n ≤ S := by omega
  have hlc := len_calls h
  rw [hn] at hlc ⊢
  clear hn hlen
  go_enter Try.func46, Try.ntmps46
  go_wp2_with (first | (go_at_call 22; refine hlc.mono ?_; rintro e w' ⟨rfl, rfl⟩) | (at_make; refine wpList_make_z _ rfl _ _ 29 rfl 3 (.int .i64 0) 1 8 Try.underlying29 Try.infoInt _ _ n _ _ rfl rfl rfl rfl (by omega) (by unfold maxLen; omega) ?_; intro cs hcs))
  go_loopw [10] (fun i wr => ∃ k : Nat, k ≤ n ∧ i = .int .i64 k ∧ LB wr w.heap.size n (l.take k) ∧ Fr (fun _ => False) w wr) (fun i _ => n - (intOf i).toNat)
  case atStart => exact ⟨0, Nat.zero_le _, rfl, ⟨cs, blk_new _ _, by omega, fun i x hx => by simp at hx⟩, (Fr.refl _ w).alloc _⟩
  case round =>
    obtain ⟨k, hk, rfl, hL, hF⟩ := hrel
    by_cases hlt : k < n
    · have hR := h.fr hF (fun e => e) (fun e => e)
      obtain ⟨x, hx⟩ : ∃ x, l[k]? = some x := ⟨l[k]'(by have := HN.out; omega), List.getElem?_eq_getElem _⟩
      have c0 := cell_at hR.blk 0
      simp at c0
      have g1 := hR.thing hx
      have hm := Nat.mod_lt (f + k) (show 0 < S by omega)
      obtain ⟨j, hj⟩ : ∃ j, (f + k) % S = j := ⟨_, rfl⟩
      rw [hj] at hm g1
      have HJ := hide hj
      obtain ⟨u, o1, o2⟩ := hL.old hlt
      have HX := hide hx
      have hI : (j : Int) < (S : Int) := by omega
      have hkn : (k : Int) < (n : Int) := by omega
      clear hj hx
      go_wp2
      go_region_with (go_at_call 41; refine (slot_at (hR.drewN _) k j (by omega) HJ).mono ?_; rintro e w' ⟨rfl, nq2, rfl⟩)
      all_goals
        go_wp2
        go_roundw
        case rel => exact ⟨k + 1, by omega, by go_num, LB.snoc (hL.fr ((Fr.refl (fun _ => False) wr).drewN _) (fun h => h)) HX.out hlt, (hF.drewN _).setAt _ _ _ (.inl (Nat.le_refl _))⟩
        case measure => simp [intOf]; omega
    · obtain rfl : k = n := by omega
      have hL2 : LB wr w.heap.size k l := by have := hL; rwa [List.take_of_length_le (by rw [HN.out]; omega)] at this
      clear hL
      go_wp2
      go_ret
      exact ⟨rfl, hL2, hF⟩

set_option maxHeartbeats 2000000 in
theorem nthings (w : World) :
    Calls Try.prog 46 #[.pointer none] w fun e w' => e = .returned (.slice (some ⟨w.heap.size, 0, none⟩) 0 0) ∧ LB w' w.heap.size 0 [] ∧ Fr (fun _ => False) w w' := by
  go_enter Try.func46, Try.ntmps46
  go_wp2_with (first | (go_at_call 22; refine (nlen _).mono ?_; rintro e w' ⟨rfl, rfl⟩) | (at_make; refine wpList_make_z _ rfl _ _ 29 rfl 3 (.int .i64 0) 1 8 Try.underlying29 Try.infoInt _ _ 0 _ _ rfl rfl rfl rfl (by omega) (by unfold maxLen; omega) ?_; intro cs hcs))
  go_loopw [10] (fun i wr => i = .int .i64 0 ∧ LB wr w.heap.size 0 [] ∧ Fr (fun _ => False) w wr) (fun i _ => 0)
  case atStart => exact ⟨rfl, ⟨cs, blk_new _ _, by omega, fun i x hx => by simp at hx⟩, (Fr.refl _ w).alloc _⟩
  case round =>
    obtain ⟨rfl, hL, hF⟩ := hrel
    go_wp2
    go_ret
    exact ⟨rfl, hL, hF⟩

end Go.Proofs.Ytanmhjnelhjejaa
