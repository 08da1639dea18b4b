/-
  A queue's values, and what its iterator hands over.
-/
import Derived.Test.YtingpopcdihclabMqCalls
import Derived.Test.YtingpopcdihclabMqInv
import Derived.Test.YtingpopcdihclabLl
import Derived.RangeFuncNested
import Derived.RangeFuncBound
import Derived.RangeFuncCalls
import Derived.RangeFuncLeaves
import Derived.RangeFuncBox
import Derived.Shelf.Abstract
import Derived.Shelf.RegionOpen
import Derived.WalkKit
import Derived.OwnWalkIn
import Derived.TacticsInMore
import Derived.LoopNIn
import Derived.LoopIn
import Derived.Test.YtingpopcdihclabFootIn
namespace Go.Proofs.Ytingpopcdihclab
open Go.RowKit Go.Shelf
attribute [local go_sem] Oper.semAt_some
set_option linter.unusedVariables false
set_option maxRecDepth 8192

/-- a slice's length -/
def vlen : Value → Nat
  | .slice _ n _ => n
  | _ => 0

theorem Chn.first {q : Qu} {o : Option Nat} {l : List Nat} (h : Chn q o l) : o = l[0]? := by cases l with
  | nil => exact h
  | cons x l => exact h.1
theorem Chn.next {q : Qu} : ∀ {l : List Nat} {o : Option Nat} {j x : Nat}, Chn q o l → l[j]? = some x → q.nx x = l[j + 1]? ∧ x ∈ q.ids
  | [], _, _, _, _, h => by simp at h
  | y :: l, o, 0, x, h, e => by
    simp at e; subst e
    exact ⟨by rw [h.2.2.first]; simp, h.2.1⟩
  | y :: l, o, j + 1, x, h, e => by
    have := Chn.next (j := j) h.2.2 (by simpa using e)
    exact ⟨by rw [this.1]; simp, this.2⟩

set_option maxHeartbeats 2000000 in
theorem values_calls {w : World} {lo b : Nat} {q : Qu} (h : IsQ w lo b q) (W : Wf q) {l : List Nat} (hC : Chn q (q.nx q.tail) l) (hl : l.length ≤ 100000) :
    Calls Try.prog 27 #[.pointer (some ⟨b, 0, none⟩)] w fun e w' => ∃ v, e = .returned v ∧ LS w' w.heap.size v (l.map q.v) ∧ Fr (fun _ => False) w w' := by
  have c1 := h.c1
  have n1 := h.cn W.tail
  rw [hC.first] at n1
  obtain ⟨L, hL⟩ : ∃ L, l.map q.v = L := ⟨_, rfl⟩
  have hLl : L.length = l.length := by rw [← hL]; simp
  have hLx : ∀ j x, l[j]? = some x → L[j]? = some (q.v x) := fun j x hx => by rw [← hL, List.getElem?_map, hx]; rfl
  rw [hL]
  obtain ⟨n, hn⟩ : ∃ n, l.length = n := ⟨_, rfl⟩
  have HC := hide (fun j x => Chn.next (j := j) (x := x) hC)
  have HX := hide hLx
  have HN := hide hn
  have HL := hide hLl
  rw [hn] at hl
  clear hC hL hLl hLx hn
  obtain ⟨o0, ho0⟩ : ∃ o0, pO l[0]? = o0 := ⟨_, rfl⟩
  rw [ho0] at n1
  go_enter Try.func27, Try.ntmps27
  go_wp2
  go_loopw [3, 4] (fun v o wr => ∃ j : Nat, j ≤ n ∧ o = pO l[j]? ∧ OS wr w.heap.size 2 1 v j (rowV2 (L.take j)) ∧ Fr (fun _ => False) w wr) (fun v _ _ => n - vlen v)
  case atStart => exact ⟨0, Nat.zero_le _, ho0.symm, by simpa [rowV2] using OS.nil _ _ _ _, Fr.refl _ _⟩
  case round =>
    obtain ⟨j, hj, rfl, hO, hF⟩ := hrel
    have hD := h.fr hF (fun h => h) (fun _ _ h => h)
    by_cases hlt : j < n
    · obtain ⟨x, hx⟩ : ∃ x, l[j]? = some x := ⟨l[j]'(by have := HN.out; omega), List.getElem?_eq_getElem _⟩
      obtain ⟨hnx, hxi⟩ := unhide HC j x hx
      have hX := hide (unhide HX j x hx)
      have e0 := hD.cv hxi
      have e1 := hD.cn hxi
      have hne := hD.ltn hxi
      rw [hnx] at e1
      obtain ⟨u, hu⟩ : ∃ u, q.v x = u := ⟨_, rfl⟩
      rw [hu] at e0 hX
      rw [hx]
      obtain ⟨a, cap, rfl, _⟩ := hO.cell
      have HO := hide hO
      have hlo := hF.size
      have HJ : Hid (∀ w1 : World, Fr (RowsOf wr w.heap.size 2) wr w1 → w1.cell? ⟨x, 1, none⟩ = some (pO l[j + 1]?)) := hide fun w1 hf => cell_fr hf (fun e => by
        obtain ⟨_, cs, e⟩ := e
        have := (hD.nd x hxi).2
        rw [e] at this
        cases this) e1
      clear hO hx hu hnx hD
      obtain ⟨o1, ho1⟩ : ∃ o1, l[j + 1]? = o1 := ⟨_, rfl⟩
      rw [ho1] at HJ e1
      have HO1 := hide ho1
      clear ho1
      cases o1
      all_goals
        simp only [pO] at HJ e1 ⊢
        go_wp2_with (at_builtin; refine wpList_append_os _ rfl _ _ 42 rfl 2 (.int .i64 0) 1 8 Try.underlying42 Try.infoLong rfl w.heap.size _ j (rowV2 (L.take j)) rfl ((unhide HO).fr ((Fr.refl (fun _ => False) wr).alloc _) (fun _ _ h => h)) _ 1 [.int .i64 u] rfl (Src.ofSlice _ Try.underlying42 _ 1 1 _ rfl (cell_one_new _ _ _) (by simp [Value.oneCell'])) (by unfold maxLen; omega) (by omega) (by simp; omega) ?_; intro v' w1 hO1 hF1; have hG1 := unhide HJ w1 (((Fr.refl (RowsOf wr w.heap.size 2) wr).alloc (.cells #[.int .i64 u] 2)).trans hF1 (fun _ _ h => h) (fun i hi e => ⟨e.1, by obtain ⟨_, cs, e2⟩ := e; exact ⟨cs, by rw [← e2]; exact (Below.heap_alloc _ _ _ hi).symm⟩⟩)))
        obtain ⟨a', cap', rfl, _⟩ := hO1.cell
        refine ⟨⟨j + 1, by omega, by rw [unhide HO1], ?_, ?_⟩, by simp only [vlen]; omega⟩
        · have e : L.take (j + 1) = L.take j ++ [u] := by rw [List.take_add_one, hX.out]; rfl
          rw [e]; simpa [rowV2] using hO1
        · refine (hF.alloc (.cells #[.int .i64 u] 2)).trans hF1 (fun _ _ h => h) (fun i hi hk => ?_)
          have := hk.1
          omega
    · obtain rfl : j = n := by omega
      rw [List.getElem?_eq_none (by rw [HN.out]; omega)]
      simp only [pO]
      rw [List.take_of_length_le (by rw [HL.out, HN.out]; omega)] at hO
      obtain ⟨a, cap, rfl, _⟩ := hO.cell
      go_wp2
      go_ret
      refine ⟨_, rfl, ?_, hF⟩
      unfold LS
      rw [HL.out, HN.out]
      exact hO

theorem nvalues (w : World) :
    Calls Try.prog 27 #[.pointer none] w fun e w' => e = .returned (.slice none 0 0) ∧ w = w' := by
  go_enter Try.func27, Try.ntmps27
  go_wp2
  go_ret
  exact ⟨rfl, rfl⟩

/-- the values that stand in a slice which an iterator has made -/
def HL (Sf : Nat → World → Prop) (W : World) (a : Option Addr) (l : List Int) : Prop :=
  l = [] ∨ ∃ g off cs, a = some ⟨g, off, none⟩ ∧ W.heap[g]? = some (.cells cs 2 (0, 0)) ∧ Sf g W ∧ ∀ i x, l[i]? = some x → cs[off + i]? = some (.int .i64 x)

/-- what comes -/
def itQ (x : Int) : Array Value := #[.int .i64 x]

theorem Fr.grownBy {w w' : World} (h : Fr (fun _ => False) w w') : w.grownBy w' none := ⟨h.os, h.tape, h.output, h.size, fun k hk _ => h.block k hk (fun e => e)⟩

theorem LS.hl {w : World} {lo n c : Nat} {a : Option Addr} {l : List Int} (Sf : Nat → World → Prop) (h : LS w lo (.slice a n c) l) (hS : ∀ q, lo ≤ q → q < w.heap.size → Sf q w) : HL Sf w a l := by
  by_cases hl : l = []
  · exact .inl hl
  · right
    have hpos : 0 < l.length := List.length_pos_iff.2 hl
    obtain ⟨h1, a', cap, h2, h3, h4, h5⟩ := h
    cases h2
    rcases h5 with ⟨h5, h6⟩ | ⟨g, off, cur, g1, g2, g3, g4, g5⟩
    · omega
    · refine ⟨g, off, cur, g1, g3, hS g g2 (lt_of_blk g3), fun i x hx => g5 i _ ?_⟩
      unfold rowV2
      rw [List.getElem?_map, hx]; rfl

set_option maxHeartbeats 4000000 in
/-- Sf q W: what the iterator may rely on about its copy (block q) in W -/
theorem items_stops (nn : Nat) (hn : 1 ≤ nn) (B : Nat) (p : Option Addr) (l : List Int) (w : World) (Kp : World → World → Prop) (Sf : Nat → World → Prop) (hl : l.length ≤ 100000) (hB : w.heap[B]? = some (.cells #[.pointer p] 24 (0, 0)))
    (hS0 : ∀ W W' q, Below w.heap.size w W → Fr (fun _ => False) W W' → W.heap.size ≤ q → q < W'.heap.size → Sf q W')
    (hSK : ∀ q W W', Sf q W → (∃ cs t, W.heap[q]? = some (.cells cs t (0, 0))) → Kp W W' → Sf q W' ∧ W'.heap[q]? = W.heap[q]?)
    (hT : ∀ W, Below w.heap.size w W → Calls Try.prog 27 #[.pointer p] W fun e w' => ∃ v, e = .returned v ∧ LS w' W.heap.size v l ∧ Fr (fun _ => False) W w') :
    SeqStopsK Fence.wide nn Try.prog 26 #[.pointer (some ⟨B, 0, none⟩)] itQ Kp (fun ys => ys = l) (fun pre => pre <+: l) l.length w := by
  intro lp J Jx W hW hJ hJx hY h0
  have hB' : W.heap[B]? = some (.cells #[.pointer p] 24 (0, 0)) := (hW.block B (lt_of_blk hB)).trans hB
  have c0 := cell_at hB' 0
  have zW := hW.size
  obtain ⟨n, hnl⟩ : ∃ n, l.length = n := ⟨_, rfl⟩
  have HT : Calls Try.prog 27 #[.pointer p] W fun e w' => ∃ a cap, e = .returned (.slice a n cap) ∧ LS w' W.heap.size (.slice a n cap) l ∧ Fr (fun _ => False) W w' :=
    (hT W hW).mono fun e w' ⟨v, h1, h2, h3⟩ => by
      obtain ⟨a, cap, rfl, _⟩ := h2.cell
      exact ⟨a, cap, by rw [h1, hnl], by rw [← hnl]; exact h2, h3⟩
  rw [hnl] at hl hY
  have HN := hide hnl
  have HY := hide hY
  have HS := hide hSK
  simp at c0
  clear hY hB hT hnl hSK
  refine callsIn_of_wp Try.func26 rfl trivial ?_ rfl
  simp only [Try.ntmps26, List.size_toArray, List.length_cons, List.length_nil, Nat.reduceAdd, Nat.reduceSub, Array.replicate_succ, Array.replicate_zero, List.push_toArray, List.append_toArray, List.nil_append, List.cons_append]
  gi_wp2_with (refine ⟨trivial, ?_⟩; gi_at_call 27; refine (callsIn_wide.2 HT).mono ?_; rintro e w1 ⟨a, cap, rfl, hL0, hF0⟩)
  have h1 : J [] w1 := hJ _ _ _ none h0 hF0.grownBy (fun r e => by cases e)
  have hH := LS.hl Sf hL0 (fun q h1 h2 => hS0 W w1 q hW hF0 h1 h2)
  clear HT hS0
  gi_loopw [8] (fun i wr => ∃ k : Nat, k ≤ n ∧ i = .int .i64 k ∧ J (l.take k) wr ∧ HL Sf wr a l) (fun i _ => n - (intOf i).toNat)
  case atStart => exact ⟨0, Nat.zero_le _, rfl, by simpa using h1, hH⟩
  case round =>
    obtain ⟨k, hk, rfl, hJs, hLk⟩ := hrel
    by_cases hlt : k < n
    · obtain ⟨x, hx⟩ : ∃ x, l[k]? = some x := ⟨l[k]'(by have := HN.out; omega), List.getElem?_eq_getElem _⟩
      rcases hLk with rfl | ⟨g, off, cs, rfl, hg, hSg, hc⟩
      · simp at hx
      · have hc0 : wr.cell? ⟨g, off + k, none⟩ = some (.int .i64 x) := by rw [cell_at hg]; exact hc k x hx
        have hst : l.take k ++ [x] = l.take (k + 1) := by rw [List.take_add_one, hx]; rfl
        have hpre : l.take (k + 1) <+: l := List.take_prefix _ _
        obtain ⟨fn, tmps, assign, body, hy', hR⟩ := unhide HY (l.take k) x _ hJs (by rw [List.length_take]; have := HN.out; omega)
        have hkn : (k : Int) < (n : Int) := by omega
        dsimp only [itQ] at hy'
        rw [hst] at hR
        have HC := hide hc
        clear hx HY hst hc
        gi_wp2
        refine hR.mono ?_
        rintro e W3 (⟨rfl, hJ3, hk3⟩ | ⟨rfl, hJx3⟩)
        · have hL3 : HL Sf W3 (some ⟨g, off, none⟩) l := by
            obtain ⟨s1, s2⟩ := unhide HS _ _ _ hSg ⟨cs, _, hg⟩ hk3
            exact .inr ⟨g, off, cs, rfl, s2.trans hg, s1, unhide HC⟩
          gi_wp2
          go_roundw
          case rel => exact ⟨k + 1, by omega, by go_num, hJ3, hL3⟩
          case measure => simp [intOf]; omega
        · gi_wp2
          refine bodyPost_ret (results_none rfl _ _ _) rfl ?_
          exact ⟨⟨_, rfl⟩, .inr ⟨_, hpre, hJx3⟩⟩
    · obtain rfl : k = n := by omega
      rw [List.take_of_length_le (by have := HN.out; omega)] at hJs
      gi_wp2
      go_end0
      exact ⟨⟨_, rfl⟩, .inl ⟨_, rfl, hJs⟩⟩

set_option maxHeartbeats 400000 in
theorem items_in (p : Option Addr) (w : World) :
    Calls Try.prog 20 #[.pointer p] w fun e w' => e = .returned (.func (.func 26) #[] #[.pointer (some ⟨w.heap.size, 0, none⟩)]) ∧ w' = w.alloc (.cells #[.pointer p] 24) := by
  go_enter Try.func20, Try.ntmps20
  go_wp2
  go_ret
  exact ⟨rfl, rfl⟩

end Go.Proofs.Ytingpopcdihclab
