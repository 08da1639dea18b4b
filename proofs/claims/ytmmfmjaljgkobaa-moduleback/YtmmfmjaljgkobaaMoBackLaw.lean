/-
  ModuleBack walked.
-/
import Derived.Test.YtmmfmjaljgkobaaMoSameLaw
namespace Go.Proofs.Ytmmfmjaljgkobaa
open Go.RowKit
set_option linter.unusedVariables false
set_option maxRecDepth 8192

theorem readX_bad {l : List UInt8} (h : (readX l).2 ≠ 0) : (readX l).1 = [] := by
  rcases readX_cases l with ⟨m, _, _, e⟩ | ⟨_, e⟩
  · rw [e] at h; exact absurd rfl h
  · rw [e]

theorem ba_eq_toList (s : ByteArray) (l : List UInt8) (h : s.data.toList = l) : ((ba l).toList == s.toList) = true := by
  rw [ba_toList, ByteArray.toList_eq, h]; simp

set_option maxHeartbeats 2000000 in
theorem mback_law {hi : Nat} {w : World} {a : Option Addr} {n : Nat} {m : List Ac} (h : AcA 0 hi w a n m) (hh : hi ≤ w.heap.size) (c : Nat) (text : ByteArray) (ht : text.size ≤ 140737488351232) :
    Calls Try.prog 5 #[moV a n c, .string text] w fun e w' => e = .returned (.bool true) ∧ Q0 w w' := by
  have q1 : Q0 w (w.alloc (.cells #[.slice a n c] 24)) := (Fr.refl _ w).alloc _
  have b1 : (w.alloc (.cells #[.slice a n c] 24)).heap[w.heap.size]? = some (.cells #[.slice a n c] 24 (0, 0)) := blk_new w _
  have HA := hide (AcA.fr h q1 q0_no)
  have HB := hide b1
  have z1 := q1.size
  clear h b1
  -- the second half, from any world in which nothing old has turned
  go_enter Try.func5, Try.ntmps5
  go_wp2_with fail
  refine (mlives_calls _).mono ?_
  rintro e w2 ⟨rfl, hF2⟩
  have F2 := q1.then hF2
  have z2 := hF2.size
  have B2 := hide (hF2.blk (unhide HB) (fun h => h))
  have HA2 := hide (AcA.fr (unhide HA) hF2 q0_no)
  generalize w.alloc (.cells #[.slice a n c] 24) = w1 at *
  have k2 := cell_at (unhide B2) 0
  simp at k2
  go_wp2_with fail
  refine (mbytes_calls (unhide HA2) (by omega) _).mono ?_
  rintro e w3 ⟨rfl, hF3⟩
  have B3 := hide (hF3.blk (unhide B2) (fun h => h))
  have HA3 := hide (AcA.fr (unhide HA2) hF3 q0_no)
  have k3 := cell_at (unhide B3) 0
  simp at k3
  have F3 := F2.then hF3
  clear k2
  by_cases hr : rightE m = 0
  · have HT := hide (show bytesT m = ba (moB m) by unfold bytesT; rw [if_pos hr])
    have HRd := hide (readX_whole hr)
    have HLe := hide (moB_le hr)
    rw [hr, unhide HT]
    have HE := hide hr
    clear hr
    go_wp2_with fail
    refine (mright_calls (unhide HA3) _).mono ?_
    rw [unhide HE]
    rintro e w4 ⟨rfl, hF4⟩
    have B4 := hide (hF4.blk (unhide B3) (fun h => h))
    have HA4 := hide (AcA.fr (unhide HA3) hF4 q0_no)
    have F4 := F3.then hF4
    clear k3
    go_wp2_with fail
    refine (mread_calls _ _ (by rw [ba_size]; have := unhide HLe; omega)).mono ?_
    rw [ba_list, unhide HRd]
    rintro e w5 ⟨a5, n5, rfl, hA5, hF5⟩
    have B5 := hide (hF5.blk (unhide B4) (fun h => h))
    have k5 := cell_at (unhide B5) 0
    have l5 := lt_of_blk (unhide B5)
    simp at k5
    have q6 : Q0 w5 (w5.alloc (.cells #[.slice a5 n5 n5] 24)) := (Fr.refl _ w5).alloc _
    have HA6 := hide (AcA.fr (AcA.fr (unhide HA4) hF5 q0_no) q6 q0_no)
    have HN6 := hide (AcA.fr hA5 q6 q0_no)
    have F6 := (F4.then hF5).then q6
    clear hA5
    go_wp2_with fail
    refine (xsame_val (decide_eq_true rfl) (unhide HA6) (unhide HN6) _ _).mono ?_
    rintro e w7 ⟨rfl, hF7⟩
    have F7 := F6.then hF7
    go_wp2_with fail
    refine (mread_calls text _ (by omega)).mono ?_
    rintro e w8 ⟨a8, n8, rfl, hA8, hF8⟩
    have F8 := F7.then hF8
    have q9 : Q0 w8 (w8.alloc (.cells #[.slice a8 n8 n8] 24)) := (Fr.refl _ w8).alloc _
    have HA9 := hide (AcA.fr hA8 q9 q0_no)
    have F9 := F8.then q9
    have z9 := q9.size
    have hn8 := hA8.len
    have hs8 := hA8.small
    by_cases hx : (readX text.data.toList).2 = 0
    · obtain ⟨r1, r2⟩ := readX_sound (l := text.data.toList) (m := (readX text.data.toList).1) (by rw [← hx])
      have HT8 := hide (show bytesT (readX text.data.toList).1 = ba (moB (readX text.data.toList).1) by unfold bytesT; rw [if_pos r1])
      have heq := ba_eq_toList text _ r2
      rw [hx]
      have R1 := hide r1
      clear hx r1 r2 hn8
      generalize (readX text.data.toList).1 = m8 at *
      clear hA8
      go_wp2_with fail
      refine (mbytes_calls (unhide HA9) z9 _).mono ?_
      rw [unhide HT8, unhide R1]
      rintro e w10 ⟨rfl, hF10⟩
      go_wp2
      go_ret
      exact ⟨rfl, F9.then hF10⟩
    · have hne : ((readX text.data.toList).2 != 0) = true := bne_iff_ne.2 hx
      have hn0 : n8 = 0 := by rw [← hn8, readX_bad hx]; rfl
      subst hn0
      generalize (readX text.data.toList).2 = ev at *
      clear hx hn8 hA8
      go_wp2
      go_ret
      exact ⟨rfl, F9⟩
  · have hne0 : (rightE m == 0) = false := beq_eq_false_iff_ne.2 hr
    have HT := hide (show bytesT m = ⟨#[]⟩ by unfold bytesT; rw [if_neg hr])
    rw [unhide HT]
    generalize hre : rightE m = re at *
    have HRE := hide hre
    clear hr hre
    go_wp2_with fail
    refine (mright_calls (unhide HA3) _).mono ?_
    rw [unhide HRE]
    rintro e w4 ⟨rfl, hF4⟩
    have F4 := F3.then hF4
    clear k3
    go_wp2_with fail
    refine (mread_calls text _ (by omega)).mono ?_
    rintro e w8 ⟨a8, n8, rfl, hA8, hF8⟩
    have F8 := F4.then hF8
    have q9 : Q0 w8 (w8.alloc (.cells #[.slice a8 n8 n8] 24)) := (Fr.refl _ w8).alloc _
    have HA9 := hide (AcA.fr hA8 q9 q0_no)
    have F9 := F8.then q9
    have z9 := q9.size
    have hn8 := hA8.len
    have hs8 := hA8.small
    by_cases hx : (readX text.data.toList).2 = 0
    · obtain ⟨r1, r2⟩ := readX_sound (l := text.data.toList) (m := (readX text.data.toList).1) (by rw [← hx])
      have HT8 := hide (show bytesT (readX text.data.toList).1 = ba (moB (readX text.data.toList).1) by unfold bytesT; rw [if_pos r1])
      have heq := ba_eq_toList text _ r2
      rw [hx]
      have R1 := hide r1
      clear hx r1 r2 hn8
      generalize (readX text.data.toList).1 = m8 at *
      clear hA8
      go_wp2_with fail
      refine (mbytes_calls (unhide HA9) z9 _).mono ?_
      rw [unhide HT8, unhide R1]
      rintro e w10 ⟨rfl, hF10⟩
      go_wp2
      go_ret
      exact ⟨rfl, F9.then hF10⟩
    · have hne : ((readX text.data.toList).2 != 0) = true := bne_iff_ne.2 hx
      have hn0 : n8 = 0 := by rw [← hn8, readX_bad hx]; rfl
      subst hn0
      generalize (readX text.data.toList).2 = ev at *
      clear hx hn8 hA8
      go_wp2
      go_ret
      exact ⟨rfl, F9⟩

end Go.Proofs.Ytmmfmjaljgkobaa
