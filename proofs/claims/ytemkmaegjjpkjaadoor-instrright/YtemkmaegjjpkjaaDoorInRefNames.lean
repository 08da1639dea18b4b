/-
  Names, Name and Parse of the reference of layer 4.
-/
import Derived.Test.YtemkmaegjjpkjaaDoorInRef
namespace Go.Proofs.YtemkmaegjjpkjaaDoor
open Go.RowKit
set_option linter.unusedVariables false

/-- the reference's names in a block -/
def TabAt (w : World) (b : Nat) : Prop := w.heap[b]? = some (.cells tabA 9 (0, 0))

theorem TabAt.cell {w : World} {b : Nat} (h : TabAt w b) (k : Nat) (hk : k < 27) : w.cell? ⟨b, k, none⟩ = some (.string (ba (nm k))) := by
  rw [cell_at h k]
  have := tabL_at k hk
  simpa [tabA] using this

set_option maxHeartbeats 1000000 in
set_option maxRecDepth 100000 in
theorem xnames_calls (w : World) :
    Calls Tryd.prog 22 #[] w fun e w' => e = .returned (.slice (some ⟨w.heap.size, 0, none⟩) 27 27) ∧ TabAt w' w.heap.size ∧ Fr (fun _ => False) w w' := by
  go_enter Tryd.func22, Tryd.ntmps22
  go_wp2
  go_ret
  exact ⟨rfl, blk_new w _, (Fr.refl _ w).alloc _⟩

set_option maxHeartbeats 1000000 in
theorem xname_calls (op : Int) (w : World) :
    Calls Tryd.prog 17 #[.int .i64 op] w fun e w' => e = .returned (.string (ba (nameN op))) ∧ Fr (fun _ => False) w w' := by
  cases hi : isOpB op
  · have e : nameN op = [] := (nameN_nil op).2 hi
    rw [e]
    have HI := hide hi
    clear e hi
    go_enter Tryd.func17, Tryd.ntmps17
    go_wp2_with (go_at_call 25; refine (xis_calls _ _).mono ?_; rw [unhide HI]; rintro e w' ⟨rfl, rfl⟩)
    go_ret
    exact ⟨rfl, Fr.refl _ _⟩
  · obtain ⟨h0, h1⟩ := (isOpB_iff op).1 hi
    have e : nameN op = nm op.toNat := by unfold nameN; rw [hi]; rfl
    rw [e]
    have HI := hide hi
    clear e hi
    go_enter Tryd.func17, Tryd.ntmps17
    go_wp2_with (first
      | (go_at_call 25; refine (xis_calls _ _).mono ?_; rw [unhide HI]; rintro e w' ⟨rfl, rfl⟩)
      | (go_at_call 22; refine (xnames_calls _).mono ?_; rintro e w1 ⟨rfl, hT, hF⟩; have c := hT.cell op.toNat (by omega)))
    go_ret
    exact ⟨rfl, hF⟩

set_option maxHeartbeats 1000000 in
theorem xparse_calls (s : ByteArray) (w : World) :
    Calls Tryd.prog 11 #[.string s] w fun e w' => e = .returned (.tuple #[.int .i64 (parseN s.data.toList).1, .bool (parseN s.data.toList).2]) ∧ Fr (fun _ => False) w w' := by
  go_enter Tryd.func11, Tryd.ntmps11
  go_wp2_with (go_at_call 22; refine (xnames_calls _).mono ?_; rintro e w1 ⟨rfl, hT, hF⟩)
  go_loop [5] (fun i => ∃ k : Nat, k ≤ 27 ∧ i = .int .i64 k ∧ Hid (parseN s.data.toList = pfind s.data.toList (nms.drop k) k)) (fun i => 27 - (intOf i).toNat)
  case atStart => exact ⟨0, by omega, rfl, rfl⟩
  case round =>
    obtain ⟨k, hk, rfl, HR⟩ := hrel
    by_cases hlt : k < 27
    · have c := hT.cell k hlt
      have hs := pfind_step s.data.toList k hlt
      by_cases hq : nm k = s.data.toList
      · have hq2 : ((ba (nm k)).toList == s.toList) = true := by rw [ba_toList, ByteArray.toList_eq, hq]; simp
        rw [if_pos hq] at hs
        have HS : Hid (parseN s.data.toList = ((k : Int), true)) := HR.out.trans hs
        clear hs HR hq
        go_wp2
        go_ret2
        exact ⟨ret_parse (by rw [HS.out]) (by rw [HS.out]), hF⟩
      · have hq2 : ((ba (nm k)).toList == s.toList) = false := by rw [ba_toList, ByteArray.toList_eq]; simpa using hq
        rw [if_neg hq] at hs
        have HS : Hid (parseN s.data.toList = pfind s.data.toList (nms.drop (k + 1)) (k + 1)) := HR.out.trans hs
        clear hs HR hq
        go_wp2
        go_round
        case rel => exact ⟨k + 1, by omega, by go_num, HS⟩
        case measure => simp [intOf]; omega
    · obtain rfl : k = 27 := by omega
      have HS : Hid (parseN s.data.toList = (0, false)) := HR.out.trans (pfind_end _)
      clear HR
      go_wp2
      go_ret2
      exact ⟨ret_parse (by rw [HS.out]) (by rw [HS.out]), hF⟩

end Go.Proofs.YtemkmaegjjpkjaaDoor
