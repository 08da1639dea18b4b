/-
  The table of names; Name and Parse of package instr.
-/
import Derived.Test.YtemkmaegjjpkjaaDoorInCalls
import Derived.Test.YtemkmaegjjpkjaaDoorRdCalls
namespace Go.Proofs.YtemkmaegjjpkjaaDoor
open Go.RowKit
set_option linter.unusedVariables false

/-- the table's cells -/
def tabL : List Value := nms.map fun n => .string (ba n)
def tabA : Array Value := tabL.toArray

/-- the table lies where the variable is -/
def Tab (w : World) : Prop := w.rangeAt 0 0 tabL

theorem tabL_at (k : Nat) (h : k < 27) : tabL[k]? = some (.string (ba (nm k))) := by
  unfold tabL nm
  rw [List.getElem?_map, List.getElem?_eq_getElem (by rw [nms_length]; exact h), List.getD_eq_getElem?_getD, List.getElem?_eq_getElem (by rw [nms_length]; exact h)]
  rfl

theorem Tab.cell {w : World} (h : Tab w) (k : Nat) (hk : k < 27) : w.cell? ⟨0, k, none⟩ = some (.string (ba (nm k))) := by
  have := h k _ (tabL_at k hk)
  simpa using this

theorem Tab.lt {w : World} (h : Tab w) : 0 < w.heap.size := World.block_lt_of_cell? w _ (h.cell 0 (by omega))

theorem Tab.fr {S : Nat → Prop} {w w' : World} (h : Tab w) (hf : Fr S w w') (hS : ¬ S 0) : Tab w' := by
  intro j v hv
  rw [← h j v hv]
  have := hf.block _ h.lt hS
  simp only [World.cell?, this]

theorem Tab.below {w w' : World} (h : Tab w) {B : Nat} (hb : Below B w w') (hB : 0 < B) : Tab w' := by
  intro j v hv
  rw [← h j v hv]
  exact hb.cell (by exact hB)

theorem Tab.load {w : World} (h : Tab w) : (Instr.loadAt 39 (.pointer (some ⟨0, 0, none⟩))).run Tryd.prog w = .ok (.agg tabA) w :=
  run_loadAt_mid w _ 0 39 tabL _ h Tryd.underlying39 rfl (by kernel_rfl)

theorem tab_index : ∀ (i : Fin 27) (w : World), (Instr.index 39 (.agg tabA) (.int .i64 (i.val : Int))).run Tryd.prog w = .ok (.string (ba (nm i.val))) w := by
  intro i w
  obtain ⟨i, hi⟩ := i
  rcases (by omega : i = 0 ∨ i = 1 ∨ i = 2 ∨ i = 3 ∨ i = 4 ∨ i = 5 ∨ i = 6 ∨ i = 7 ∨ i = 8 ∨ i = 9 ∨ i = 10 ∨ i = 11 ∨ i = 12 ∨ i = 13 ∨ i = 14 ∨ i = 15 ∨ i = 16 ∨ i = 17 ∨ i = 18 ∨ i = 19 ∨ i = 20 ∨ i = 21 ∨ i = 22 ∨ i = 23 ∨ i = 24 ∨ i = 25 ∨ i = 26) with rfl | rfl | rfl | rfl | rfl | rfl | rfl | rfl | rfl | rfl | rfl | rfl | rfl | rfl | rfl | rfl | rfl | rfl | rfl | rfl | rfl | rfl | rfl | rfl | rfl | rfl | rfl
  all_goals kernel_rfl

set_option maxHeartbeats 400000 in
theorem name_calls (op : Int) (w : World) (h : Tab w) :
    Calls Tryd.prog 16 #[.int .i64 op] w fun e w' => e = .returned (.string (ba (nameN op))) ∧ w = w' := by
  cases hi : isOpB op
  · have e : nameN op = [] := (nameN_nil op).2 hi
    rw [e]
    have HI := hide hi
    clear e hi
    go_enter Tryd.func16, Tryd.ntmps16
    go_wp2_with (go_at_call 24; refine (isOp_calls _ _).mono ?_; rw [unhide HI]; rintro e w' ⟨rfl, rfl⟩)
    go_ret
    exact ⟨rfl, rfl⟩
  · obtain ⟨h0, h1⟩ := (isOpB_iff op).1 hi
    have e : nameN op = nm op.toNat := by unfold nameN; rw [hi]; rfl
    have c := h.cell op.toNat (by omega)
    rw [e]
    have HI := hide hi
    clear e hi
    go_enter Tryd.func16, Tryd.ntmps16
    go_wp2_with (go_at_call 24; refine (isOp_calls _ _).mono ?_; rw [unhide HI]; rintro e w' ⟨rfl, rfl⟩)
    go_ret
    exact ⟨rfl, rfl⟩

theorem ret_parse {a b : Int} {c d : Bool} (h1 : a = b) (h2 : c = d) : Ending.returned (.tuple #[.int .i64 a, .bool c]) = .returned (.tuple #[.int .i64 b, .bool d]) := by rw [h1, h2]

set_option maxHeartbeats 1000000 in
theorem parse_calls (s : ByteArray) (w : World) (h : Tab w) :
    Calls Tryd.prog 10 #[.string s] w fun e w' => e = .returned (.tuple #[.int .i64 (parseN s.data.toList).1, .bool (parseN s.data.toList).2]) ∧ w = w' := by
  have hsz : (Tryd.prog.info? 39).map (·.size) = some tabL.length := by kernel_rfl
  go_enter Tryd.func10, Tryd.ntmps10
  go_wp2_with (refine wpList_load_mid (P := Tryd.prog) rfl 39 (.global 0) rfl 0 0 rfl tabL _ h Tryd.underlying39 rfl hsz ?_; rw [← tabA])
  clear hsz
  go_loop [7] (fun i => ∃ k : Nat, k ≤ 27 ∧ i = .int .i64 k ∧ Hid (parseN s.data.toList = pfind s.data.toList (nms.drop k) k)) (fun i => 27 - (intOf i).toNat)
  case atStart => exact ⟨0, by omega, rfl, rfl⟩
  case round =>
    obtain ⟨k, hk, rfl, HR⟩ := hrel
    by_cases hlt : k < 27
    · have hx := tab_index ⟨k, hlt⟩ w
      simp only at hx
      have hs := pfind_step s.data.toList k hlt
      by_cases hq : nm k = s.data.toList
      · have hq2 : ((ba (nm k)).toList == s.toList) = true := by rw [ba_toList, ByteArray.toList_eq, hq]; simp
        rw [if_pos hq] at hs
        have HS : Hid (parseN s.data.toList = ((k : Int), true)) := HR.out.trans hs
        clear hs HR hq
        go_wp2
        go_ret2
        exact ⟨ret_parse (by rw [HS.out]) (by rw [HS.out]), rfl⟩
      · have hq2 : ((ba (nm k)).toList == s.toList) = false := by rw [ba_toList, ByteArray.toList_eq]; simpa using hq
        rw [if_neg hq] at hs
        have HS : Hid (parseN s.data.toList = pfind s.data.toList (nms.drop (k + 1)) (k + 1)) := HR.out.trans hs
        clear hs HR hq
        go_wp2
        go_round
        case rel => exact ⟨k + 1, by omega, by go_num, HS⟩
        case measure => simp [intOf]; omega
    · obtain rfl : k = 27 := by omega
      have HS : Hid (parseN s.data.toList = (0, false)) := HR.out.trans (pfind_end _)
      clear HR
      go_wp2
      go_ret2
      exact ⟨ret_parse (by rw [HS.out]) (by rw [HS.out]), rfl⟩

end Go.Proofs.YtemkmaegjjpkjaaDoor
