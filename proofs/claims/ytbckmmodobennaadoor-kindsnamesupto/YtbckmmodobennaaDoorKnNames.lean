/-
  Names of lists: kinds.Names answers as the plain function says, of lists of at most 8388609 types; it makes memory of its own, and touches nothing else.
-/
import Derived.Test.YtbckmmodobennaaDoorKnShelf
import Derived.Test.YtbckmmodobennaaDoorKnText
import Derived.Test.YtbckmmodobennaaDoorKnName
import Derived.Test.YtbckmmodobennaaDoorKnRow
import Derived.OwnWalk
import Derived.Laws.MakeOwn
namespace Go.Proofs.YtbckmmodobennaaDoor
open Go.RowKit
set_option linter.unusedVariables false

/-- 'make([]T, n)', T of one cell: a new block of n cells. -/
theorem wpList_make_blk {P : Program} (w : World) {ops : Array Oper} {rest : List Oper} {o : Oper} {a : Act} {Q : Exit → Act → World → Prop}
    (hg : o.guard = none) (l c : Operand) (t : TypeId) (hop : o.op = Op.makeSlice t l c)
    (e : TypeId) (i : TypeInfo) (z : Value) (h1 : P.underlying t = some (.slice e)) (h2 : P.info? e = some i) (h3 : i.zero = some z) (h4 : i.size = 1)
    (kl kc : IntKind) (n : Nat) (hl : a.eval l = .int kl n) (hc : a.eval c = .int kc n) (b2 : i.bytes * n ≤ 281474976710656) (b3 : n ≤ maxLen)
    (hK : ∀ cs : Array Value, cs.size = n → wpList P ops Q rest (a.put o.dst (.slice (some ⟨w.heap.size, 0, none⟩) n n)) (w.alloc (.cells cs e))) :
    wpList P ops Q (o :: rest) a w := by
  refine wpList_plain hg fun K hK' => ?_
  have h63 : (n : Int) ≤ 9223372036854775807 := by simp only [maxLen] at b3; omega
  have hb : (i.bytes : Int) * (n : Int) ≤ 281474976710656 := by
    have h : ((i.bytes * n : Nat) : Int) ≤ 281474976710656 := by omega
    rwa [Int.natCast_mul] at h
  have hr := run_make (P := P) w t e i z h1 h2 h3 kl kc n n (by omega) (Int.le_refl _) hb h63
  simp only [Int.toNat_natCast, h4, Nat.mul_one] at hr
  unfold Oper.wp
  simp [execOp, hop, hl, hc, hr, Result.andThen]
  exact hK' _ _ (hK _ (size_madeCells _ _))

theorem infoStr : (Tryd.prog.info? 9).map (fun i => (i.zero, i.size, i.bytes)) = some (some (.string ⟨#[]⟩), 1, 16) := by kernel_rfl
theorem infoType : (Tryd.prog.info? 22).map (fun i => (i.zero, i.size, i.bytes)) = some (some (.int .i64 0), 1, 8) := by kernel_rfl

/-- the list that X holds -/
def listX (X : Nat → Int) (n : Nat) : List Int := (List.range n).map X
theorem allX_list (X : Nat → Int) (n : Nat) (m : Int) : allX X n m = (listX X n).all (rightB · m) := by unfold allX listX; rw [List.all_map]; rfl
theorem listX_nil {X : Nat → Int} {n : Nat} : listX X n = [] ↔ n = 0 := by unfold listX; simp
theorem listX_length (X : Nat → Int) (n : Nat) : (listX X n).length = n := by simp [listX]

def namesS (X : Nat → Int) (n : Nat) : ByteArray := ⟨(namesL (listX X n)).toArray⟩

theorem join_calls (B n : Nat) (X : Nat → Int) (w : World) (hB : B < w.heap.size) (hc : ∀ j, j < n → w.cell? ⟨B, j, none⟩ = some (.string (nameS (X j)))) (hn : n ≤ 8388609) :
    Calls Tryd.prog 31 #[.slice (some ⟨B, 0, none⟩) n n, .string ⟨#[44]⟩] w fun e w' => e = .returned (.string ⟨(Lib.join ((listX X n).map nameL) [44]).toArray⟩) ∧ Below w.heap.size w w' := by
  have hm : ((List.range n).map fun i => nameS (X i)).map (·.data.toList) = (listX X n).map nameL := by
    unfold listX; rw [List.map_map, List.map_map]; exact List.map_congr_left (fun i _ => by simp [nameS])
  have h := Tryd.strings_Join B 0 n ((List.range n).map fun i => nameS (X i)) ⟨#[44]⟩ w (fun j x hx => by
      rw [List.getElem?_map] at hx
      by_cases hj : j < n
      · rw [List.getElem?_range hj] at hx
        simp only [Option.map_some, Option.some.injEq] at hx
        subst hx
        rw [Nat.zero_add]
        exact hc j hj
      · rw [List.getElem?_eq_none (by simp; omega)] at hx; cases hx) hB (by simp; omega) (by simp) (by
      rw [hm]
      have := join_len (ps := (listX X n).map nameL) (fun p hp => by obtain ⟨x, _, rfl⟩ := List.mem_map.1 hp; exact nameL_len x)
      rw [List.length_map, listX_length] at this
      exact Nat.le_trans this (by omega))
  rw [hm] at h
  simpa using h

theorem nameS_empty (t : Int) : (nameS t).toList.isEmpty = !rightB t 8 := by
  rw [ByteArray.toList_eq]
  show (nameL t).isEmpty = _
  unfold nameL rightB
  split
  · rename_i h; subst h; rfl
  · split
    · rename_i h; subst h; rfl
    · split
      · rename_i h; rw [decide_eq_true (by omega)]; rfl
      · rename_i h1 h2 h; rw [decide_eq_false (by omega)]; rfl

theorem names_no {X : Nat → Int} {n k : Nat} (hk : k < n) (h : rightB (X k) 8 = false) : namesS X n = ⟨#[]⟩ := by
  have := all_no hk h
  rw [allX_list] at this
  unfold namesS; rw [namesL_no this]

theorem names_yes {X : Nat → Int} {n : Nat} (h0 : n ≠ 0) (h : ∀ j, j < n → rightB (X j) 8 = true) : namesS X n = ⟨(Lib.join ((listX X n).map nameL) [44]).toArray⟩ := by
  have := all_yes h
  rw [allX_list] at this
  unfold namesS; rw [namesL_all (fun e => h0 (listX_nil.1 e)) this]

set_option maxHeartbeats 2000000 in
theorem names_calls (a : Option Addr) (n cap : Nat) (X : Nat → Int) (w : World) (hR : Row w a n X) (hn : n ≤ 8388609) :
    Calls Tryd.prog 23 #[.slice a n cap] w fun e w' => e = .returned (.string (namesS X n)) ∧ Below w.heap.size w w' := by
  by_cases h0 : n = 0
  · subst h0
    go_enter Tryd.func23, Tryd.ntmps23
    go_wp2
    go_ret
    exact ⟨rfl, Below.refl _ _⟩
  obtain ⟨i, hi, hz0, hz1, hz2⟩ := info_parts infoStr
  have hb0 : ((n : Int) == 0) = false := by rw [beq_eq_false_iff_ne]; omega
  have H0 := hide h0
  clear h0
  go_enter Tryd.func23, Tryd.ntmps23
  go_wp2_with (at_make; refine wpList_make_blk _ rfl _ _ 46 rfl 9 i (.string ⟨#[]⟩) Tryd.underlying46 hi hz0 hz1 .i64 .i64 n rfl rfl (by rw [hz2]; omega) (by unfold maxLen; omega) ?_; intro cs hcs)
  go_loopw [14] (fun ix w' => ∃ (k : Nat) (cs : Array Value), k ≤ n ∧ ix = .int .i64 k ∧ w'.heap[w.heap.size]? = some (.cells cs 9 (0, 0)) ∧ cs.size = n ∧
      (∀ j, j < k → cs[j]? = some (.string (nameS (X j))) ∧ rightB (X j) 8 = true) ∧ Below w.heap.size w w') (fun ix w' => n - (intOf ix).toNat)
  case atStart => exact ⟨0, cs, Nat.zero_le _, rfl, blk_new _ _, hcs, fun j hj => absurd hj (by omega), (Below.refl _ _).alloc (Nat.le_refl _) _⟩
  case round =>
    clear hcs cs
    obtain ⟨k, cs, hk, rfl, hblk, hcs, hall, hbel⟩ := hrel
    have hR1 := hR.below hbel
    have Hblk := hide hblk
    have Hcs := hide hcs
    have Hall := hide hall
    have hfree := free_at hblk k
    by_cases hlt : k < n
    · obtain ⟨b, off, rfl, hbl, _, hc⟩ := hR1.get hlt
      have hck := cell_at hblk k
      rw [Array.getElem?_eq_getElem (by omega : k < cs.size)] at hck
      generalize cs[k] = old at hck
      have hem := nameS_empty (X k)
      clear hblk hcs hall
      cases hr : rightB (X k) 8
      · rw [hr] at hem
        simp only [Bool.not_false] at hem
        have Hr := hide (names_no hlt hr)
        clear hr
        go_wp2_with (go_at_call 21; refine (name_calls _ _).mono ?_; rintro e w' ⟨rfl, rfl⟩)
        go_ret
        rw [unhide Hr]
        exact ⟨rfl, hbel.setCell (Nat.le_refl _) _⟩
      · rw [hr] at hem
        simp only [Bool.not_true] at hem
        have Hr := hide hr
        clear hr
        go_wp2_with (go_at_call 21; refine (name_calls _ _).mono ?_; rintro e w' ⟨rfl, rfl⟩)
        go_roundw
        case rel =>
          refine ⟨k + 1, _, by omega, by go_num, blk_setCell (unhide Hblk), by simpa using unhide Hcs, fun j hj => ?_, hbel.setCell (Nat.le_refl _) _⟩
          have hs := unhide Hcs
          rw [Array.getElem?_setIfInBounds]
          by_cases hjk : k = j
          · subst hjk; rw [if_pos rfl, if_pos (by omega)]; exact ⟨rfl, unhide Hr⟩
          · rw [if_neg hjk]; exact unhide Hall j (by omega)
        case measure => simp [intOf]; omega
    · have hkn : k = n := by omega
      subst hkn
      have HE := hide (names_yes (X := X) (n := k) (unhide H0) (fun j hj => (hall j hj).2))
      have HC : Hid (∀ j, j < k → wr.cell? ⟨w.heap.size, j, none⟩ = some (.string (nameS (X j)))) := hide (fun j hj => by rw [cell_at hblk j]; exact (hall j hj).1)
      have hsz := lt_of_blk hblk
      clear hblk hcs hall hfree
      go_wp2_with (go_at_call 31; refine (join_calls _ _ X _ hsz (unhide HC) hn).mono ?_; rintro e w' ⟨rfl, hbel2⟩)
      go_ret
      rw [unhide HE]
      exact ⟨rfl, hbel.trans (hbel2.mono (by omega))⟩
end Go.Proofs.YtbckmmodobennaaDoor
