/-
  ModuleWhole walked.
-/
import Derived.Test.YtmmfmjaljgkobaaMoLives
namespace Go.Proofs.Ytmmfmjaljgkobaa
open Go.RowKit
set_option linter.unusedVariables false
set_option maxRecDepth 8192

theorem moB_pos (m : List Ac) : 3 ≤ (moB m).length := by simp [moB, magB]

/-- a beginning of a right module's bytes is no module's -/
theorem readX_cut {m : List Ac} (h : rightE m = 0) {k : Nat} (hk : k < (moB m).length) : readX ((moB m).take k) = ([], 5) := by
  have hl := moB_le h
  rcases readX_cases ((moB m).take k) with ⟨m', h1, h2, _⟩ | ⟨_, h2⟩
  · exfalso
    have e : moB m ++ [] = moB m' ++ (moB m).drop k := by rw [← h2]; simp
    obtain ⟨rfl, e2⟩ := moB_prefix h h1 e
    have := congrArg List.length h2
    simp at this; omega
  · rw [h2, if_neg (by simp; omega)]

theorem readX_more {m : List Ac} (h : rightE m = 0) (r : List UInt8) : ((readX (moB m ++ r)).2 = 0) ↔ r = [] := by
  constructor
  · intro e
    obtain ⟨h1, h2⟩ := readX_sound (l := moB m ++ r) (m := (readX (moB m ++ r)).1) (by rw [← e])
    have := moB_prefix (r := r) (r' := []) h h1 (by rw [List.append_nil (moB _)]; exact h2)
    exact this.2
  · rintro rfl; rw [List.append_nil, readX_whole h]

theorem cut_at (cut : Int) {L : Nat} (h0 : 0 < L) (h1 : L ≤ 65536) : ∃ K : Nat, wrap64 ((IntKind.u64.wrap cut).tmod (L : Int)) = (K : Int) ∧ K < L := by
  have hu : 0 ≤ IntKind.u64.wrap cut := by rw [IntKind.wrap_u64]; omega
  have e : (IntKind.u64.wrap cut).tmod (L : Int) = IntKind.u64.wrap cut % (L : Int) := Int.tmod_eq_emod_of_nonneg hu
  have h2 := Int.emod_nonneg (IntKind.u64.wrap cut) (show (L : Int) ≠ 0 by omega)
  have h3 := Int.emod_lt_of_pos (IntKind.u64.wrap cut) (show (0 : Int) < L by omega)
  refine ⟨(IntKind.u64.wrap cut % (L : Int)).toNat, ?_, by omega⟩
  rw [e, w64 _ (by omega)]; omega

set_option maxHeartbeats 1000000 in
theorem mwhole_law {hi : Nat} {w : World} {a : Option Addr} {n : Nat} {m : List Ac} (h : AcA 0 hi w a n m) (hh : hi ≤ w.heap.size) (c : Nat) (cut : Int) (more : ByteArray) (hm : more.size ≤ 140737488351232) :
    Calls Try.prog 6 #[moV a n c, .int .i64 cut, .string more] w fun e w' => e = .returned (.bool true) ∧ Q0 w w' := by
  have q1 : Q0 w (w.alloc (.cells #[.slice a n c] 24)) := (Fr.refl _ w).alloc _
  have b1 : (w.alloc (.cells #[.slice a n c] 24)).heap[w.heap.size]? = some (.cells #[.slice a n c] 24 (0, 0)) := blk_new w _
  have HA := hide (AcA.fr h q1 q0_no)
  have HB := hide b1
  clear h b1
  by_cases hr : rightE m = 0
  · have HE := hide hr
    have HT := hide (show bytesT m = ba (moB m) by unfold bytesT; rw [if_pos hr])
    have h3 := moB_pos m
    have h4 := moB_le hr
    have hsz := ba_size (moB m)
    obtain ⟨K, hK, hKl⟩ := cut_at cut (L := (moB m).length) (by omega) (by omega)
    have hK0 : (0 : Int) ≤ (K : Int) := by omega
    have hK1 : (K : Int) ≤ ((moB m).length : Int) := by omega
    have HX := hide (show (ba (moB m)).extract 0 K = ba ((moB m).take K) by rw [ba_extract]; simp)
    have HC := hide (readX_cut hr hKl)
    have HKl := hide hKl
    have HM := hide (readX_more hr more.data.toList)
    clear hr
    go_enter Try.func6, Try.ntmps6
    go_wp2_with fail
    refine (mlives_calls _).mono ?_
    rintro e w2 ⟨rfl, hF2⟩
    have k2 := cell_at (hF2.blk (unhide HB) (fun h => h)) 0
    simp at k2
    have HA2 := hide (AcA.fr (unhide HA) hF2 q0_no)
    have z2 := Nat.le_trans q1.size hF2.size
    go_wp2_with fail
    refine (mbytes_calls (unhide HA2) (by omega) _).mono ?_
    rw [unhide HT, unhide HE]
    rintro e w3 ⟨rfl, hF3⟩
    go_wp2_with fail
    rw [unhide HX]
    refine (mread_calls _ _ (by rw [ba_size, List.length_take]; omega)).mono ?_
    rw [ba_list, unhide HC]
    rintro e w4 ⟨a4, n4, rfl, _, hF4⟩
    have F4 := ((q1.then hF2).then hF3).then hF4
    have q5 : Q0 w4 (w4.alloc (.cells #[.slice a4 n4 n4] 24)) := (Fr.refl _ w4).alloc _
    have hcat : (ba (moB m) ++ more).data.toList = moB m ++ more.data.toList := by
      have := ba_append (moB m) more.data.toList
      rw [ba_of] at this
      rw [this, ba_list]
    have Hcat := hide hcat
    have Hsz := hide (show (ba (moB m) ++ more).size ≤ 9223372036854775807 by rw [ByteArray.size_append, ba_size]; omega)
    clear hcat
    go_wp2_with fail
    refine (mread_calls _ _ (unhide Hsz)).mono ?_
    rw [unhide Hcat]
    rintro e w6 ⟨a6, n6, rfl, _, hF6⟩
    have F6 := (F4.then q5).then hF6
    by_cases hmo : more.data.toList = []
    · have hg : ((readX (moB m ++ more.data.toList)).2 == 0) = true := beq_iff_eq.2 ((unhide HM).2 hmo)
      have he : more.toList.isEmpty = true := by rw [ByteArray.toList_eq, hmo]; rfl
      generalize (readX (moB m ++ more.data.toList)).2 = gv at *
      clear hmo HM
      go_wp2
      go_ret
      exact ⟨rfl, F6.alloc _⟩
    · have hg : ((readX (moB m ++ more.data.toList)).2 == 0) = false := beq_eq_false_iff_ne.2 (fun e => hmo ((unhide HM).1 e))
      have he : more.toList.isEmpty = false := by rw [ByteArray.toList_eq]; cases hx : more.data.toList with | nil => exact absurd hx hmo | cons _ _ => rfl
      generalize (readX (moB m ++ more.data.toList)).2 = gv at *
      clear hmo HM
      go_wp2
      go_ret
      exact ⟨rfl, F6.alloc _⟩
  · have HT := hide (show bytesT m = ⟨#[]⟩ by unfold bytesT; rw [if_neg hr])
    have hne : (rightE m != 0) = true := bne_iff_ne.2 hr
    clear hr
    go_enter Try.func6, Try.ntmps6
    go_wp2_with fail
    refine (mlives_calls _).mono ?_
    rintro e w2 ⟨rfl, hF2⟩
    have k2 := cell_at (hF2.blk (unhide HB) (fun h => h)) 0
    simp at k2
    have HA2 := hide (AcA.fr (unhide HA) hF2 q0_no)
    have z2 := Nat.le_trans q1.size hF2.size
    go_wp2_with fail
    refine (mbytes_calls (unhide HA2) (by omega) _).mono ?_
    rw [unhide HT]
    rintro e w3 ⟨rfl, hF3⟩
    go_wp2
    go_ret
    exact ⟨rfl, (q1.then hF2).then hF3⟩

end Go.Proofs.Ytmmfmjaljgkobaa
