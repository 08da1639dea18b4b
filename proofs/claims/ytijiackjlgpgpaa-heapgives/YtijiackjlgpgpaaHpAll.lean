/-
  All of a heap of numbers: what its iterator hands over.
-/
import Derived.RangeFuncNested
import Derived.RangeFuncBound
import Derived.RangeFuncCalls
import Derived.RangeFuncLeaves
import Derived.Shelf.Abstract
import Derived.Shelf.RegionOpen
import Derived.WalkKit
import Derived.OwnWalkIn
import Derived.TacticsInMore
import Derived.LoopNIn
import Derived.LoopIn
import Derived.Test.YtijiackjlgpgpaaHpInt
namespace Go.Proofs.Ytijiackjlgpgpaa
open Go.RowKit Go.Shelf
attribute [local go_sem] Oper.semAt_some
set_option linter.unusedVariables false
set_option maxRecDepth 8192

/-- what comes: the tick, the thing -/
def itH (x : Int × Int) : Array Value := #[.int .i64 x.1, .int .i64 x.2]
def itemsH (l : List (En Int)) (k : Nat) : List (Int × Int) := (l.take k).map fun e => (e.t, e.x)

theorem itemsH_succ {l : List (En Int)} {k : Nat} {e : En Int} (h : l[k]? = some e) : itemsH l (k + 1) = itemsH l k ++ [(e.t, e.x)] := by
  unfold itemsH; rw [List.take_add_one, h, List.map_append]; rfl
theorem itemsH_len (l : List (En Int)) {k : Nat} (h : k ≤ l.length) : (itemsH l k).length = k := by unfold itemsH; simp; omega
theorem itemsH_mono (l : List (En Int)) {k n : Nat} (h : k ≤ n) : itemsH l k <+: itemsH l n := by
  unfold itemsH
  have : (l.take k) <+: l.take n := by
    rw [show l.take k = (l.take n).take k by rw [List.take_take, Nat.min_eq_left h]]
    exact List.take_prefix _ _
  exact this.map _

/-- a list of things in a row from block lo on -/
def LE (w : World) (lo : Nat) (a : Option Addr) (l : List (En Int)) : Prop := l = [] ∨ ∃ q, a = some ⟨q, 0, none⟩ ∧ lo ≤ q ∧ ∃ cs, w.heap[q]? = some (.cells cs 65 (0, 0)) ∧ ∀ (i : Nat) (e : En Int), l[i]? = some e → At3 cs i e

/-- rows of a heap's things stand -/
def KE (W W' : World) : Prop := ∀ (q : Nat) (cs : Array Value), W.heap[q]? = some (.cells cs 65 (0, 0)) → W'.heap[q]? = W.heap[q]?

theorem KE.refl (W : World) : KE W W := fun _ _ _ => rfl
theorem KE.trans {A B C : World} (h : KE A B) (k : KE B C) : KE A C := fun q cs hq => (k q cs ((h q cs hq).trans hq)).trans (h q cs hq)
theorem KE.put (W : World) (l : Nat) (o o' : Obj) (h : W.heap[l]? = some o) (hc : o.isCells = false) : KE W (W.putObj l o') := fun q cs hq => by
  refine World.putObj_heap_other (fun e => ?_)
  subst e
  rw [h] at hq
  cases hq
  cases hc
theorem KE.fr {P : Nat → Prop} {W W' : World} (h : Fr P W W') (hP : ∀ (q : Nat) (cs : Array Value), W.heap[q]? = some (.cells cs 65 (0, 0)) → ¬ P q) : KE W W' := fun q cs hq => h.block q (lt_of_blk hq) (hP q cs hq)

theorem LE.ke {W W' : World} {lo : Nat} {a : Option Addr} {l : List (En Int)} (h : LE W lo a l) (hk : KE W W') : LE W' lo a l := by
  rcases h with h | ⟨q, h1, h2, cs, h3, h4⟩
  · exact .inl h
  · exact .inr ⟨q, h1, h2, cs, (hk q cs h3).trans h3, h4⟩

theorem Fr.grownBy {w w' : World} (h : Fr (fun _ => False) w w') : w.grownBy w' none := ⟨h.os, h.tape, h.output, h.size, fun k hk _ => h.block k hk (fun e => e)⟩

set_option maxHeartbeats 4000000 in
theorem hall1_stops (nn : Nat) (hn : 1 ≤ nn) (B : Nat) (p : Option Addr) (l : List (En Int)) (w : World) (hl : l.length ≤ 4194304) (hB : w.heap[B]? = some (.cells #[.pointer p] 25 (0, 0)))
    (hT : ∀ W, Below w.heap.size w W → Calls Try.prog 39 #[.pointer p] W fun e w' => ∃ a c, e = .returned (.slice a l.length c) ∧ LE w' W.heap.size a l ∧ Fr (fun _ => False) W w') :
    SeqStopsK Fence.wide nn Try.prog 38 #[.pointer (some ⟨B, 0, none⟩)] itH KE (fun ys => ys = itemsH l l.length) (fun pre => pre <+: itemsH l l.length) l.length w := by
  intro lp J Jx W hW hJ hJx hY h0
  have hB' : W.heap[B]? = some (.cells #[.pointer p] 25 (0, 0)) := (hW.block B (lt_of_blk hB)).trans hB
  have c0 := cell_at hB' 0
  have zW := hW.size
  have HT := hT W hW
  obtain ⟨n, hnl⟩ : ∃ n, l.length = n := ⟨_, rfl⟩
  rw [hnl] at HT hl hY ⊢
  have HN := hide hnl
  have HY := hide hY
  simp at c0
  clear hY hB hT hnl
  refine callsIn_of_wp Try.func38 rfl trivial ?_ rfl
  simp only [Try.ntmps38, List.size_toArray, List.length_cons, List.length_nil, Nat.reduceAdd, Nat.reduceSub, Array.replicate_succ, Array.replicate_zero, List.push_toArray, List.append_toArray, List.nil_append, List.cons_append]
  gi_wp2_with (refine ⟨trivial, ?_⟩; gi_at_call 39; refine (callsIn_wide.2 HT).mono ?_; rintro e w1 ⟨a, c, rfl, hL0, hF0⟩)
  have h1 : J [] w1 := hJ _ _ _ none h0 hF0.grownBy (fun r e => by cases e)
  clear HT
  gi_loopw [8] (fun i wr => ∃ k : Nat, k ≤ n ∧ i = .int .i64 k ∧ J (itemsH l k) wr ∧ LE wr W.heap.size a l) (fun i _ => n - (intOf i).toNat)
  case atStart => exact ⟨0, Nat.zero_le _, rfl, h1, hL0⟩
  case round =>
    obtain ⟨k, hk, rfl, hJs, hL⟩ := hrel
    by_cases hlt : k < n
    · obtain ⟨e, he⟩ : ∃ e, l[k]? = some e := get_some (by have := HN.out; omega)
      obtain ⟨q, rfl, hq0, cs, hq1, hq2⟩ : ∃ q, a = some ⟨q, 0, none⟩ ∧ W.heap.size ≤ q ∧ ∃ cs, wr.heap[q]? = some (.cells cs 65 (0, 0)) ∧ ∀ (i : Nat) (e : En Int), l[i]? = some e → At3 cs i e := by
        rcases hL with h | h
        · rw [h] at he; cases he
        · exact h
      obtain ⟨g1, g2, g3⟩ := hq2 k e he
      rw [← cell_at hq1] at g1 g2 g3
      have hst := itemsH_succ he
      have hpre := itemsH_mono l (k := k + 1) (n := n) hlt
      have hJa : J (itemsH l k) (wr.alloc (.cells #[.int .i64 e.t, .int .i64 e.k, .int .i64 e.x] 65)) := hJ _ _ _ none hJs (World.grownBy_alloc wr _ none) (fun r e => by cases e)
      obtain ⟨fn, tmps, assign, body, hy', hR⟩ := unhide HY (itemsH l k) (e.t, e.x) _ hJa (by rw [itemsH_len l (by have := HN.out; omega)]; exact hlt)
      have hkn : (k : Int) < (n : Int) := by omega
      have hLa : LE (wr.alloc (.cells #[.int .i64 e.t, .int .i64 e.k, .int .i64 e.x] 65)) W.heap.size (some ⟨q, 0, none⟩) l := hL.ke (KE.fr ((Fr.refl (fun _ => False) wr).alloc _) (fun _ _ _ h => h))
      dsimp only [itH] at hy'
      rw [← hst] at hR
      clear he HY hq2
      gi_wp2
      refine hR.mono ?_
      rintro e W3 (⟨rfl, hJ3, hk3⟩ | ⟨rfl, hJx3⟩)
      · have hL3 := hLa.ke hk3
        gi_wp2
        go_roundw
        case rel => exact ⟨k + 1, by omega, by go_num, hJ3, hL3⟩
        case measure => simp [intOf]; omega
      · gi_wp2
        refine bodyPost_ret (results_none rfl _ _ _) rfl ?_
        exact ⟨⟨_, rfl⟩, .inr ⟨_, hpre, hJx3⟩⟩
    · obtain rfl : k = n := by omega
      gi_wp2
      go_end0
      exact ⟨⟨_, rfl⟩, .inl ⟨_, rfl, hJs⟩⟩

theorem hall_in (p : Option Addr) (w : World) :
    Calls Try.prog 31 #[.pointer p] w fun e w' => e = .returned (.func (.func 38) #[] #[.pointer (some ⟨w.heap.size, 0, none⟩)]) ∧ w' = w.alloc (.cells #[.pointer p] 25) := by
  go_enter Try.func31, Try.ntmps31
  go_wp2
  go_ret
  exact ⟨rfl, rfl⟩

theorem nsorted (W : World) :
    Calls Try.prog 39 #[.pointer none] W fun e w' => ∃ a c, e = .returned (.slice a ([] : List (En Int)).length c) ∧ LE w' W.heap.size a [] ∧ Fr (fun _ => False) W w' := by
  go_enter Try.func39, Try.ntmps39
  go_wp2
  go_ret
  exact ⟨none, 0, rfl, .inl rfl, Fr.refl _ _⟩

end Go.Proofs.Ytijiackjlgpgpaa
