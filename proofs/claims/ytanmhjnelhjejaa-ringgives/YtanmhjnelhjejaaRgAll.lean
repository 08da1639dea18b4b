/-
  All of a ring of numbers: what its iterator hands over.
-/
import Derived.RangeFuncNested
import Derived.RangeFuncBound
import Derived.RangeFuncCalls
import Derived.RangeFuncLeaves
import Derived.Shelf.Abstract
import Derived.Shelf.RegionOpen
import Derived.WalkKit
import Derived.OwnWalkIn
import Derived.TacticsInMore
import Derived.LoopNIn
import Derived.LoopIn
import Derived.Test.YtanmhjnelhjejaaRgThings
namespace Go.Proofs.Ytanmhjnelhjejaa
open Go.RowKit Go.Shelf
attribute [local go_sem] Oper.semAt_some
set_option linter.unusedVariables false
set_option maxRecDepth 8192

/-- what comes: the number, the thing -/
def itR (x : Nat × Int) : Array Value := #[.int .i64 (x.1 : Int), .int .i64 x.2]
def itemsR (l : List Int) (k : Nat) : List (Nat × Int) := (List.range k).map fun i => (i, l.getD i 0)

theorem itemsR_succ (l : List Int) (k : Nat) : itemsR l (k + 1) = itemsR l k ++ [(k, l.getD k 0)] := by unfold itemsR; rw [List.range_succ, List.map_append]; rfl
theorem itemsR_len (l : List Int) (k : Nat) : (itemsR l k).length = k := by unfold itemsR; simp
theorem itemsR_mono (l : List Int) {k n : Nat} (h : k ≤ n) : itemsR l k <+: itemsR l n := by
  induction n with
  | zero => obtain rfl : k = 0 := by omega
            exact List.prefix_refl _
  | succ n ih =>
    rcases Nat.lt_or_ge n k with hk | hk
    · obtain rfl : k = n + 1 := by omega
      exact List.prefix_refl _
    · rw [itemsR_succ]; exact (ih hk).trans (List.prefix_append _ _)

theorem Fr.grownBy {w w' : World} (h : Fr (fun _ => False) w w') : w.grownBy w' none := ⟨h.os, h.tape, h.output, h.size, fun k hk _ => h.block k hk (fun e => e)⟩

set_option maxHeartbeats 4000000 in
/-- Sf q W: what the iterator may rely on about its copy (block q) in W -/
theorem all1_stops (nn : Nat) (hn : 1 ≤ nn) (B : Nat) (p : Option Addr) (l : List Int) (w : World) (Kp : World → World → Prop) (Sf : Nat → World → Prop) (hl : l.length ≤ 4096) (hB : w.heap[B]? = some (.cells #[.pointer p] 24 (0, 0)))
    (hS0 : ∀ W W', Below w.heap.size w W → Fr (fun _ => False) W W' → W.heap.size < W'.heap.size → Sf W.heap.size W')
    (hSK : ∀ q W W', Sf q W → (∃ cs t, W.heap[q]? = some (.cells cs t (0, 0))) → Kp W W' → Sf q W' ∧ W'.heap[q]? = W.heap[q]?)
    (hT : ∀ W, Below w.heap.size w W → Calls Try.prog 46 #[.pointer p] W fun e w' => e = .returned (.slice (some ⟨W.heap.size, 0, none⟩) l.length l.length) ∧ LB w' W.heap.size l.length l ∧ Fr (fun _ => False) W w') :
    SeqStopsK Fence.wide nn Try.prog 55 #[.pointer (some ⟨B, 0, none⟩)] itR Kp (fun ys => ys = itemsR l l.length) (fun pre => pre <+: itemsR l l.length) l.length w := by
  intro lp J Jx W hW hJ hJx hY h0
  have hB' : W.heap[B]? = some (.cells #[.pointer p] 24 (0, 0)) := (hW.block B (lt_of_blk hB)).trans hB
  have c0 := cell_at hB' 0
  have zW := hW.size
  have HT := hT W hW
  obtain ⟨n, hnl⟩ : ∃ n, l.length = n := ⟨_, rfl⟩
  rw [hnl] at HT hl hY ⊢
  have HN := hide hnl
  have HY := hide hY
  have HS := hide hSK
  simp at c0
  clear hY hB hT hnl hSK
  refine callsIn_of_wp Try.func55 rfl trivial ?_ rfl
  simp only [Try.ntmps55, List.size_toArray, List.length_cons, List.length_nil, Nat.reduceAdd, Nat.reduceSub, Array.replicate_succ, Array.replicate_zero, List.push_toArray, List.append_toArray, List.nil_append, List.cons_append]
  gi_wp2_with (refine ⟨trivial, ?_⟩; gi_at_call 46; refine (callsIn_wide.2 HT).mono ?_; rintro e w1 ⟨rfl, hL0, hF0⟩)
  have h1 : J [] w1 := hJ _ _ _ none h0 hF0.grownBy (fun r e => by cases e)
  have hSf := hS0 W w1 hW hF0 hL0.lt
  clear HT hS0
  gi_loopw [8] (fun i wr => ∃ k : Nat, k ≤ n ∧ i = .int .i64 k ∧ J (itemsR l k) wr ∧ LB wr W.heap.size n l ∧ Sf W.heap.size wr) (fun i _ => n - (intOf i).toNat)
  case atStart => exact ⟨0, Nat.zero_le _, rfl, h1, hL0, hSf⟩
  case round =>
    obtain ⟨k, hk, rfl, hJs, hL, hSk⟩ := hrel
    by_cases hlt : k < n
    · obtain ⟨x, hx⟩ : ∃ x, l[k]? = some x := ⟨l[k]'(by have := HN.out; omega), List.getElem?_eq_getElem _⟩
      have hc := hL.cell hx
      have hgk : l.getD k 0 = x := by rw [List.getD_eq_getElem?_getD, hx]; rfl
      have hst := itemsR_succ l k
      rw [hgk] at hst
      have hpre := itemsR_mono l (k := k + 1) (n := n) hlt
      obtain ⟨fn, tmps, assign, body, hy', hR⟩ := unhide HY (itemsR l k) (k, x) _ hJs (by rw [itemsR_len]; exact hlt)
      have hkn : (k : Int) < (n : Int) := by omega
      dsimp only [itR] at hy'
      rw [← hst] at hR
      clear hx hgk HY
      gi_wp2
      refine hR.mono ?_
      rintro e W3 (⟨rfl, hJ3, hk3⟩ | ⟨rfl, hJx3⟩)
      · have hL3 : LB W3 W.heap.size n l ∧ Sf W.heap.size W3 := by
          have hL' := hL
          obtain ⟨cs, b1, b2⟩ := hL
          obtain ⟨s1, s2⟩ := unhide HS _ _ _ hSk ⟨cs, _, b1⟩ hk3
          exact ⟨⟨cs, s2.trans b1, b2⟩, s1⟩
        gi_wp2
        go_roundw
        case rel => exact ⟨k + 1, by omega, by go_num, hJ3, hL3.1, hL3.2⟩
        case measure => simp [intOf]; omega
      · gi_wp2
        refine bodyPost_ret (results_none rfl _ _ _) rfl ?_
        exact ⟨⟨_, rfl⟩, .inr ⟨_, hpre, hJx3⟩⟩
    · obtain rfl : k = n := by omega
      gi_wp2
      go_end0
      exact ⟨⟨_, rfl⟩, .inl ⟨_, rfl, hJs⟩⟩

theorem all_in (p : Option Addr) (w : World) :
    Calls Try.prog 43 #[.pointer p] w fun e w' => e = .returned (.func (.func 55) #[] #[.pointer (some ⟨w.heap.size, 0, none⟩)]) ∧ w' = w.alloc (.cells #[.pointer p] 24) := by
  go_enter Try.func43, Try.ntmps43
  go_wp2
  go_ret
  exact ⟨rfl, rfl⟩

end Go.Proofs.Ytanmhjnelhjejaa
