/-
  Texts of names: kinds.ParseAll answers as the plain function says, of texts of at most 8388608 bytes; it makes memory of its own, and touches nothing else.
-/
import Derived.Test.YtbckmmodobennaaDoorKnNames
import Derived.Test.YtbckmmodobennaaDoorKnParse
namespace Go.Proofs.YtbckmmodobennaaDoor
open Go.RowKit
set_option linter.unusedVariables false

def pieceAt (l : List UInt8) (j : Nat) : List UInt8 := (pieces l).getD j []

theorem range_get {α β : Type} (ps : List α) (d : α) (f : α → β) : (List.range ps.length).map (fun j => f (ps.getD j d)) = ps.map f := by
  apply List.ext_getElem
  · simp
  · intro i h1 h2
    simp at h1
    simp [List.getD_eq_getElem?_getD, List.getElem?_eq_getElem h1]

theorem all_at (l : List UInt8) (h : ∀ j, j < (pieces l).length → parseB (pieceAt l j) = true) : (pieces l).all parseB = true := by
  rw [List.all_eq_true]
  intro p hp
  obtain ⟨j, hj, rfl⟩ := List.mem_iff_getElem.1 hp
  have := h j hj
  unfold pieceAt at this
  rwa [List.getD_eq_getElem?_getD, List.getElem?_eq_getElem hj] at this

theorem not_at (l : List UInt8) {k : Nat} (hk : k < (pieces l).length) (h : parseB (pieceAt l k) = false) : (pieces l).all parseB = false := by
  rw [List.all_eq_false]
  refine ⟨(pieces l)[k], List.getElem_mem _, ?_⟩
  unfold pieceAt at h
  rw [List.getD_eq_getElem?_getD, List.getElem?_eq_getElem hk] at h
  simpa using h

theorem list_yes {l : List UInt8} (h1 : l ≠ [45]) (h : ∀ j, j < (pieces l).length → parseB (pieceAt l j) = true) : listB l = true ∧ listX (fun j => parseT (pieceAt l j)) (pieces l).length = listL l := by
  have ha := all_at l h
  unfold listB listL
  rw [if_neg h1, if_neg h1, if_pos ha]
  exact ⟨ha, range_get (pieces l) [] parseT⟩

theorem list_no {l : List UInt8} (h1 : l ≠ [45]) (k : Nat) (hk : k < (pieces l).length) (h : parseB (pieceAt l k) = false) : listB l = false ∧ listL l = [] := by
  have ha := not_at l hk h
  unfold listB listL
  rw [if_neg h1, if_neg h1, ha]
  exact ⟨rfl, rfl⟩

theorem split_calls (s : ByteArray) (m : Int) (w : World) (hs : s.size ≤ 8388608) (hm : w.cell? ⟨0, 0, none⟩ = some (.int .i64 m)) :
    Calls Tryd.prog 29 #[.string s, .string ⟨#[44]⟩] w fun e w' => e = .returned (.slice (some ⟨w.heap.size, 0, none⟩) (pieces s.data.toList).length (pieces s.data.toList).length) ∧
      ∃ arr, w' = w.alloc (.cells arr 9) ∧ ∀ j, j < (pieces s.data.toList).length → ∃ p : ByteArray, arr[j]? = some (.string p) ∧ p.data.toList = pieceAt s.data.toList j ∧ p.size ≤ 8388608 := by
  obtain ⟨h1, h2⟩ := splitB_pieces s
  refine (Tryd.strings_Split s ⟨#[44]⟩ m w (by omega) hm (Nat.le_refl _)).mono ?_
  rintro e w' ⟨rfl, rfl⟩
  rw [h2]
  refine ⟨rfl, _, rfl, fun j hj => ?_⟩
  have hlen : j < (Lib.splitB ⟨#[44]⟩ 0 (Lib.countB s ⟨#[44]⟩) s).length := by rw [← List.length_map (f := fun x : ByteArray => x.data.toList), h1]; exact hj
  have hg : ((Lib.splitB ⟨#[44]⟩ 0 (Lib.countB s ⟨#[44]⟩) s)[j]).data.toList = pieceAt s.data.toList j := by
    unfold pieceAt
    rw [← h1, List.getD_eq_getElem?_getD, List.getElem?_map, List.getElem?_eq_getElem hlen]
    rfl
  refine ⟨(Lib.splitB ⟨#[44]⟩ 0 (Lib.countB s ⟨#[44]⟩) s)[j], ?_, hg, ?_⟩
  · rw [List.getElem?_toArray, List.getElem?_map, List.getElem?_eq_getElem hlen]; rfl
  · have hp : pieceAt s.data.toList j ∈ pieces s.data.toList := by
      unfold pieceAt
      rw [List.getD_eq_getElem?_getD, List.getElem?_eq_getElem hj]
      exact List.getElem_mem _
    have := piece_le hp
    rw [← hg] at this
    simp at this
    exact Nat.le_trans this hs

theorem parseT_range (l : List UInt8) : -9223372036854775808 ≤ parseT l ∧ parseT l ≤ 9223372036854775807 := by
  have : 0 ≤ parseT l ∧ parseT l ≤ 24 := by
    unfold parseT ofN
    split
    · omega
    · split
      · omega
      · split
        · split <;> omega
        · omega
  omega

set_option maxHeartbeats 2000000 in
theorem parseAll_calls (s : ByteArray) (m : Int) (w : World) (hs : s.size ≤ 8388608) (hm : w.cell? ⟨0, 0, none⟩ = some (.int .i64 m)) :
    Calls Tryd.prog 19 #[.string s] w fun e w' => ∃ v n c Y, e = .returned (.tuple #[.slice v n c, .bool (listB s.data.toList)]) ∧ Row w' v n Y ∧ listX Y n = listL s.data.toList ∧ n ≤ 8388609 ∧ Below w.heap.size w w' := by
  by_cases h1 : s.data.toList = [45]
  · obtain rfl := bytes_of h1
    clear h1
    go_enter Tryd.func19, Tryd.ntmps19
    go_wp2
    go_ret2
    exact ⟨none, 0, 0, fun _ => 0, rfl, ⟨by omega, .inl rfl⟩, rfl, by omega, Below.refl _ _⟩
  have hb1 : (s.toList == [45]) = false := by rw [ByteArray.toList_eq]; exact beq_eq_false_iff_ne.2 h1
  have hy := hide (list_yes h1)
  have hno := hide (list_no h1)
  have hlen : (pieces s.data.toList).length ≤ 8388609 := by have := pieces_len s.data.toList; simp at this; exact Nat.le_trans this (by omega)
  have hsp := hide (split_calls s m w hs hm)
  clear h1 hm
  generalize s.data.toList = l at *
  generalize hN : (pieces l).length = N at *
  have HN := hide hN
  clear hN
  obtain ⟨i, hi, hz0, hz1, hz2⟩ := info_parts infoType
  go_enter Tryd.func19, Tryd.ntmps19
  go_wp2_with (first
    | (go_at_call 29; refine (unhide hsp).mono ?_; rintro e w1 ⟨rfl, arr, rfl, harr⟩; have Harr := hide harr; clear harr)
    | (at_make; refine wpList_make_blk _ rfl _ _ 23 rfl 22 i (.int .i64 0) Tryd.underlying23 hi hz0 hz1 .i64 .i64 N rfl rfl (by rw [hz2]; omega) (by unfold maxLen; omega) ?_; intro cs hcs))
  go_loopw [19] (fun ix w' => ∃ (k : Nat) (cs : Array Value), k ≤ N ∧ ix = .int .i64 k ∧ w'.heap[w.heap.size]? = some (.cells arr 9 (0, 0)) ∧ w'.heap[w.heap.size + 1]? = some (.cells cs 22 (0, 0)) ∧ cs.size = N ∧
      (∀ j, j < k → cs[j]? = some (.int .i64 (parseT (pieceAt l j))) ∧ parseB (pieceAt l j) = true) ∧ Below w.heap.size w w') (fun ix w' => N - (intOf ix).toNat)
  case atStart =>
    exact ⟨0, cs, Nat.zero_le _, rfl, blk_alloc (blk_new _ _), by have := blk_new (w.alloc (.cells arr 9)) (.cells cs 22); simpa using this, hcs, fun j hj => absurd hj (by omega), ((Below.refl _ _).alloc (Nat.le_refl _) _).alloc (by simp) _⟩
  case round =>
    clear hcs cs
    obtain ⟨k, cs, hk, rfl, hblk0, hblk, hcs, hall, hbel⟩ := hrel
    have Hblk0 := hide hblk0
    have Hblk := hide hblk
    have Hcs := hide hcs
    have Hall := hide hall
    have hfree := free_at hblk k
    by_cases hlt : k < N
    · have hck := cell_at hblk k
      rw [Array.getElem?_eq_getElem (by omega : k < cs.size)] at hck
      generalize cs[k] = old at hck
      obtain ⟨p, hp, hpl, hps⟩ := unhide Harr k hlt
      have hc0 := (cell_at hblk0 k).trans hp
      have hpm : p.size ≤ maxLen := by unfold maxLen; omega
      have hP := hide (parse_calls p hpm)
      rw [hpl] at hP
      clear hblk hblk0 hcs hall hp hpl hpm
      cases hr : parseB (pieceAt l k)
      · obtain ⟨e1, e2⟩ := unhide hno k hlt hr
        rw [hr] at hP
        have He1 := hide e1
        have He2 := hide e2
        clear e1 e2 hr
        go_wp2_with (go_at_call 17; refine (unhide hP _).mono ?_; rintro e w' ⟨rfl, rfl⟩)
        go_ret2
        exact ⟨none, 0, 0, fun _ => 0, by rw [unhide He1]; rfl, ⟨by omega, .inl rfl⟩, (unhide He2).symm, by omega, hbel⟩
      · rw [hr] at hP
        have Hr := hide hr
        clear hr
        go_wp2_with (go_at_call 17; refine (unhide hP _).mono ?_; rintro e w' ⟨rfl, rfl⟩)
        go_roundw
        case rel =>
          refine ⟨k + 1, _, by omega, by go_num, ?_, blk_setCell (unhide Hblk), by simpa using unhide Hcs, fun j hj => ?_, hbel.setCell (by simp) _⟩
          · rw [Below.heap_setCell _ _ _ _ (by simp)]; exact unhide Hblk0
          · have hs := unhide Hcs
            rw [Array.getElem?_setIfInBounds]
            by_cases hjk : k = j
            · subst hjk; rw [if_pos rfl, if_pos (by omega)]; exact ⟨rfl, unhide Hr⟩
            · rw [if_neg hjk]; exact unhide Hall j (by omega)
        case measure => simp [intOf]; omega
    · have hkn : k = N := by omega
      subst hkn
      obtain ⟨e1, e2⟩ := unhide hy (fun j hj => (hall j hj).2)
      have He1 := hide e1
      have He2 := hide e2
      have hlt2 := lt_of_blk hblk
      clear e1 e2 hblk hblk0 hcs hfree hall
      go_wp2
      go_ret2
      refine ⟨some ⟨w.heap.size + 1, 0, none⟩, k, k, fun j => parseT (pieceAt l j), by rw [unhide He1]; rfl, ⟨by omega, .inr ⟨_, _, rfl, hlt2, fun j hj => ⟨parseT_range _, ?_⟩⟩⟩, unhide He2, hlen, hbel⟩
      rw [Nat.zero_add, cell_at (unhide Hblk) j]
      exact (unhide Hall j hj).1
end Go.Proofs.YtbckmmodobennaaDoor
