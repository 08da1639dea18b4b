/-
  The function that module.Each hands back: it gives all instructions with their places, row by row, or the first ones to who leaves early.
-/
import Derived.RangeFuncNested
import Derived.RangeFuncBound
import Derived.RangeFuncCalls
import Derived.RangeFuncLeaves
import Derived.Shelf.Abstract
import Derived.Shelf.RegionOpen
import Derived.WalkKit
import Derived.OwnWalkIn
import Derived.TacticsInMore
import Derived.LoopNIn
import Derived.LoopIn
import Derived.Test.YthdpgachdegcgaaMoEach
namespace Go.Proofs.Ythdpgachdegcgaa
open Go.RowKit Go.Shelf
attribute [local go_sem] Oper.semAt_some
set_option linter.unusedVariables false
set_option maxRecDepth 100000

/-- an instruction with its place -/
abbrev It4 := (Nat × Nat) × (Int × Int)
def itE (x : It4) : Array Value := #[.agg #[.int .i64 (x.1.1 : Int), .int .i64 (x.1.2 : Int)], insV x.2.1 x.2.2]
/-- the first j of row k -/
def rowI (k : Nat) (l : List (Int × Int)) (j : Nat) : List It4 := (List.range j).map (fun i => ((k, i), l.getD i (0, 0)))
/-- the first k rows -/
def itemsI (ls : List (List (Int × Int))) (k : Nat) : List It4 := (List.range k).flatMap (fun i => rowI i (ls.getD i []) (ls.getD i []).length)
def atI (ls : List (List (Int × Int))) (k j : Nat) : List It4 := itemsI ls k ++ rowI k (ls.getD k []) j

theorem atI_succ (ls : List (List (Int × Int))) (k j : Nat) : atI ls k (j + 1) = atI ls k j ++ [((k, j), (ls.getD k []).getD j (0, 0))] := by
  unfold atI rowI; rw [List.range_succ, List.map_append, List.append_assoc]; rfl
theorem itemsI_succ (ls : List (List (Int × Int))) (k : Nat) : itemsI ls (k + 1) = atI ls k (ls.getD k []).length := by
  unfold itemsI atI itemsI; rw [List.range_succ, List.flatMap_append]; simp
theorem atI_next (ls : List (List (Int × Int))) (k : Nat) : atI ls k (ls.getD k []).length = atI ls (k + 1) 0 := by
  rw [← itemsI_succ]; unfold atI rowI; simp
theorem atI_zero (ls : List (List (Int × Int))) (k : Nat) : atI ls k 0 = itemsI ls k := by unfold atI rowI; simp
theorem itemsI_mono (ls : List (List (Int × Int))) {k n : Nat} (h : k ≤ n) : itemsI ls k <+: itemsI ls n := by
  induction n with
  | zero => rw [Nat.le_zero.1 h]; exact List.prefix_rfl
  | succ n ih =>
    rcases Nat.lt_or_ge k (n + 1) with h1 | h1
    · exact (ih (by omega)).trans (by rw [itemsI_succ]; unfold atI; exact List.prefix_append _ _)
    · rw [show k = n + 1 by omega]; exact List.prefix_rfl
theorem rowI_mono (k : Nat) (l : List (Int × Int)) {i j : Nat} (h : i ≤ j) : rowI k l i <+: rowI k l j := by
  induction j with
  | zero => rw [Nat.le_zero.1 h]; exact List.prefix_rfl
  | succ j ih =>
    rcases Nat.lt_or_ge i (j + 1) with h1 | h1
    · refine (ih (by omega)).trans ?_
      unfold rowI; rw [List.range_succ, List.map_append]; exact List.prefix_append _ _
    · rw [show i = j + 1 by omega]; exact List.prefix_rfl
theorem atI_pre (ls : List (List (Int × Int))) {k j n : Nat} (hk : k < n) (hj : j ≤ (ls.getD k []).length) : atI ls k j <+: itemsI ls n := by
  refine List.IsPrefix.trans ?_ (itemsI_mono ls (Nat.succ_le_of_lt hk))
  rw [itemsI_succ]; unfold atI
  exact (List.prefix_append_right_inj _).2 (rowI_mono k _ hj)

/-- blocks from n1 up to n2 stand -/
def KR (n1 n2 : Nat) (W W' : World) : Prop := W.heap.size ≤ W'.heap.size ∧ ∀ k, n1 ≤ k → k < n2 → W'.heap[k]? = W.heap[k]?
theorem KR.refl (n1 n2 : Nat) (W : World) : KR n1 n2 W W := ⟨Nat.le_refl _, fun _ _ _ => rfl⟩
theorem KR.trans {n1 n2 : Nat} {A B C : World} (h : KR n1 n2 A B) (k : KR n1 n2 B C) : KR n1 n2 A C := ⟨Nat.le_trans h.1 k.1, fun i h1 h2 => (k.2 i h1 h2).trans (h.2 i h1 h2)⟩
theorem KR.alloc {n1 n2 : Nat} {W : World} (h : n2 ≤ W.heap.size) (o : Obj) : KR n1 n2 W (W.alloc o) := ⟨by simp, fun i h1 h2 => Below.heap_alloc _ _ _ (by omega)⟩

theorem cell_same {w w' : World} {b i : Nat} (h : w'.heap[b]? = w.heap[b]?) : w'.cell? ⟨b, i, none⟩ = w.cell? ⟨b, i, none⟩ := by
  simp [World.cell?, h]

theorem Arr.kr {α : Type} {PV : World → List Value → α → Prop} {sz lo hi : Nat} {w w' : World} {a : Option Addr} {n : Nat} {l : List α} (h : Arr PV sz lo hi w a n l) (hf : KR lo hi w w')
    (hP : ∀ vs x, PV w vs x → PV w' vs x) : Arr PV sz lo hi w' a n l := by
  refine ⟨h.len, h.small, ?_⟩
  rcases h.at' with h0 | ⟨b, off, rfl, h1, h2, hc⟩
  · exact .inl h0
  · refine .inr ⟨b, off, rfl, h1, h2, fun i x hx => ?_⟩
    obtain ⟨vs, g1, g2⟩ := hc i x hx
    exact ⟨vs, fun j v hv => (cell_same (hf.2 b h1 h2)).trans (g1 j v hv), hP vs x g2⟩

abbrev CdA (n1 n2 : Nat) := Arr (CdV n1 n2) 1 n1 n2
theorem CdA.kr {n1 n2 : Nat} {w w' : World} {a : Option Addr} {n : Nat} {l : List (List (Int × Int))} (h : CdA n1 n2 w a n l) (hf : KR n1 n2 w w') : CdA n1 n2 w' a n l :=
  Arr.kr h hf (fun vs x ⟨a, n, c, h1, h2⟩ => ⟨a, n, c, h1, Arr.kr h2 hf (fun _ _ h => h)⟩)

set_option maxHeartbeats 4000000 in
theorem each1_stops (nn : Nat) (hn : 1 ≤ nn) (n1 n2 B g n : Nat) (ls : List (List (Int × Int))) (w : World) (hw : n2 ≤ w.heap.size) (h1 : n1 ≤ B) (h2 : B < n2) (hB : w.heap[B]? = some (.cells #[.slice (some ⟨g, 0, none⟩) n n] 63 (0, 0))) (hA : CdA n1 n2 w (some ⟨g, 0, none⟩) n ls) :
    SeqStopsK Fence.wide nn Try.prog 26 #[.pointer (some ⟨B, 0, none⟩)] itE (KR n1 n2) (fun ys => ys = itemsI ls n) (fun pre => pre <+: itemsI ls n) (itemsI ls n).length w := by
  intro l J Jx W hW hJ hJx hY h0
  have k0 : KR n1 n2 w W := ⟨hW.size, fun i _ hi => hW.block i (by omega)⟩
  have hs := hA.small
  have HA := hide (hA.kr k0)
  have hB' : W.heap[B]? = some (.cells #[.slice (some ⟨g, 0, none⟩) n n] 63 (0, 0)) := (k0.2 B h1 h2).trans hB
  have c0 := cell_at hB' 0
  have zW := hW.size
  have HY := hide hY
  simp at c0
  clear hY hB hA
  refine callsIn_of_wp Try.func26 rfl trivial ?_ rfl
  simp only [Try.ntmps26, List.size_toArray, List.length_cons, List.length_nil, Nat.reduceAdd, Nat.reduceSub, Array.replicate_succ, Array.replicate_zero, List.push_toArray, List.append_toArray, List.nil_append, List.cons_append]
  gi_wp2
  gi_loopw [9] (fun i wr => ∃ k : Nat, k ≤ n ∧ i = .int .i64 k ∧ J (atI ls k 0) wr ∧ KR n1 n2 W wr) (fun i _ => n - (intOf i).toNat)
  case atStart => exact ⟨0, Nat.zero_le _, rfl, h0, KR.refl _ _ _⟩
  case round =>
    obtain ⟨k, hk, rfl, hJs, hK⟩ := hrel
    by_cases hlt : k < n
    · obtain ⟨b, off, x, vs, e, q1, q2, hx, hc, a1, m1, c1, rfl, hP⟩ := Arr.at (unhide HA) hlt
      have hc0 := (cell_same (hK.2 b q1 q2)).trans (hc 0 _ rfl)
      simp only [Option.some.injEq, Addr.mk.injEq] at e
      obtain ⟨rfl, rfl, _⟩ := e
      simp only [Nat.mul_one, Nat.zero_add, Nat.add_zero] at hc0
      have hgd : ls.getD k [] = x := by rw [List.getD_eq_getElem?_getD, hx]; rfl
      have hml := hP.len
      have hms := hP.small
      have HP := hide hP
      have hkn : (k : Int) < (n : Int) := by omega
      clear hc hP hx
      gi_wp2
      gi_loopw [16] (fun i wr => ∃ j : Nat, j ≤ m1 ∧ i = .int .i64 j ∧ J (atI ls k j) wr ∧ KR n1 n2 W wr) (fun i _ => m1 - (intOf i).toNat)
      case atStart => exact ⟨0, Nat.zero_le _, rfl, hJs, hK⟩
      case round =>
        clear hJs hK hc0
        obtain ⟨j, hj, rfl, hJs, hK⟩ := hrel
        by_cases hlj : j < m1
        · obtain ⟨b2, off2, p, q, rfl, _, _, hy, _, _, d0, d1⟩ := PrA.get (Arr.kr (unhide HP) hK (fun _ _ h => h)) hlj
          have zr := hK.1
          have hgj : x.getD j (0, 0) = (p, q) := by rw [List.getD_eq_getElem?_getD, hy]; rfl
          have hpre := atI_pre ls (k := k) (j := j + 1) (n := n) hlt (by rw [hgd]; omega)
          have hst := atI_succ ls k j
          rw [hgd, hgj] at hst
          have hlen : (atI ls k j).length < (itemsI ls n).length := by have := hpre.length_le; rw [hst] at this; simp at this; omega
          have hJa : J (atI ls k j) (wr.alloc (.cells #[.int .i64 p, .int .i64 q] 37)) := hJ _ _ _ none hJs (World.grownBy_alloc wr _ none) (fun r e => by cases e)
          obtain ⟨fn, tmps, assign, body, hy', hR⟩ := unhide HY (atI ls k j) ((k, j), (p, q)) _ hJa hlen
          have hjn : (j : Int) < (m1 : Int) := by omega
          dsimp only [itE] at hy'
          have hka : KR n1 n2 W (wr.alloc (.cells #[.int .i64 p, .int .i64 q] 37)) := hK.trans (KR.alloc (by omega) _)
          rw [← hst] at hR
          clear hy hgj HY
          gi_wp2
          refine hR.mono ?_
          rintro e W3 (⟨rfl, hJ3, hk3⟩ | ⟨rfl, hJx3⟩)
          · gi_wp2
            go_roundw
            case rel => exact ⟨j + 1, by omega, by go_num, hJ3, hka.trans hk3⟩
            case measure => simp [intOf]; omega
          · gi_wp2
            refine bodyPost_ret (results_none rfl _ _ _) rfl ?_
            exact ⟨⟨_, rfl⟩, .inr ⟨_, hpre, hJx3⟩⟩
        · have hje : j = m1 := by omega
          have hnx : J (atI ls (k + 1) 0) wr := by rw [← atI_next, hgd, hml, ← hje]; exact hJs
          clear hJs
          gi_wp2
          go_roundw
          case rel => exact ⟨k + 1, by omega, by go_num, hnx, hK⟩
          case measure => simp [intOf]; omega
    · obtain rfl : k = n := by omega
      have hfin : J (itemsI ls k) wr := by rw [← atI_zero]; exact hJs
      clear hJs
      gi_wp2
      go_end0
      exact ⟨⟨_, rfl⟩, .inl ⟨_, rfl, hfin⟩⟩

end Go.Proofs.Ythdpgachdegcgaa
