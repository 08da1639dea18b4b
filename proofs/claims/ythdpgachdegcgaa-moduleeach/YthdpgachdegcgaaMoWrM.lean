/-
  The writer of a module's parts: actors, the module; Bytes.
-/
import Derived.Test.YthdpgachdegcgaaMoWrL
namespace Go.Proofs.Ythdpgachdegcgaa
open Go.RowKit
set_option linter.unusedVariables false
set_option maxRecDepth 8192

set_option maxHeartbeats 2000000 in
theorem wactor {lo hi : Nat} {w : World} {b : Nat} {v : Value} {zs : List UInt8} (h : W6 w b v zs) {s : Fin 5 → Option Addr × Nat × Nat} {x : Ac} (hl : AcS lo hi w s x) (ho : Off hi b v) {m : Int}
    (hr : rightA x m = true) (hz : zs.length + (acB x).length ≤ 65536) :
    Calls Try.prog 44 #[wrV b, acV s] w (Wrt w b v (zs ++ acB x)) := by
  obtain ⟨r1, r2, r3, r4, _, r5⟩ := rightA_yes hr
  have R0 := hide (show ∀ t ∈ x.ps, 0 ≤ t ∧ t ≤ 255 from fun t ht => krightB_byte (r1 t (r3.subset ht)))
  have R1 := hide (show ∀ t ∈ x.rs, 0 ≤ t ∧ t ≤ 255 from fun t ht => krightB_byte (r1 t ht))
  have R2 := hide (show ∀ t ∈ x.ms, 0 ≤ t ∧ t ≤ 255 from fun t ht => krightB_byte (r2 t ht))
  have R3 := hide r4
  have R4 := hide r5
  have HZ := hide (show zs.length + (tyB x.ps).length + (tyB x.rs).length + (tyB x.ms).length + (cdB x.cs).length + (tsB x.ts).length ≤ 65536 by
    simp only [acB, List.length_append] at hz; omega)
  have hf1 : Q0 w ((w.alloc (.cells #[.pointer (some ⟨b, 0, none⟩)] 69)).alloc (.cells #[slV (s 0), slV (s 1), slV (s 2), slV (s 3), slV (s 4)] 42)) := ((Fr.refl _ w).alloc _).alloc _
  have hb1 : ((w.alloc (.cells #[.pointer (some ⟨b, 0, none⟩)] 69)).alloc (.cells #[slV (s 0), slV (s 1), slV (s 2), slV (s 3), slV (s 4)] 42)).heap[w.heap.size]? = some (.cells #[.pointer (some ⟨b, 0, none⟩)] 69 (0, 0)) := blk_alloc (blk_new w _)
  have hb2 : ((w.alloc (.cells #[.pointer (some ⟨b, 0, none⟩)] 69)).alloc (.cells #[slV (s 0), slV (s 1), slV (s 2), slV (s 3), slV (s 4)] 42)).heap[w.heap.size + 1]? = some (.cells #[slV (s 0), slV (s 1), slV (s 2), slV (s 3), slV (s 4)] 42 (0, 0)) := by
    have := blk_new (w.alloc (.cells #[.pointer (some ⟨b, 0, none⟩)] 69)) (.cells #[slV (s 0), slV (s 1), slV (s 2), slV (s 3), slV (s 4)] 42)
    simpa using this
  have H1 := hide (h.q0 hf1)
  have HB := hide hb1
  have HC := hide hb2
  have HW := hide h
  have HA := hide (hl.fr hf1 q0_no)
  have HO := hide ho
  clear hb1 hb2 h ho hr hl hz r1 r2 r3 r4 r5
  go_enter Try.func44, Try.ntmps44
  go_wp2_with fail
  refine (wtypes (unhide H1) (unhide HA).ps _ (unhide HO) (unhide R0) (by have := unhide HZ; omega)).mono ?_
  rintro e w2 ⟨rfl, v2, hW2, hF2⟩
  have F2 := hF2
  have HW2 := hide hW2
  have HO2 := hide ((unhide HO).step (unhide H1) F2)
  have HA2 := hide ((unhide HA).fr F2.fr (unhide HO).no)
  have g2 := cell_at (Wrote.kept (unhide HW) F2 (Nat.le_refl _) (unhide HB)) 0
  have j2 := cell_at (Wrote.kept (unhide HW) F2 (Nat.le_succ _) (unhide HC)) 1
  simp at g2 j2
  clear hW2
  go_wp2_with fail
  refine (wtypes (unhide HW2) (unhide HA2).rs _ (unhide HO2) (unhide R1) (by have := unhide HZ; simp only [List.length_append]; omega)).mono ?_
  rintro e w3 ⟨rfl, v3, hW3, hF3⟩
  have F3 := F2.trans hF3
  have HW3 := hide hW3
  have HO3 := hide ((unhide HO).step (unhide H1) F3)
  have HA3 := hide ((unhide HA).fr F3.fr (unhide HO).no)
  have g3 := cell_at (Wrote.kept (unhide HW) F3 (Nat.le_refl _) (unhide HB)) 0
  have j3 := cell_at (Wrote.kept (unhide HW) F3 (Nat.le_succ _) (unhide HC)) 2
  simp at g3 j3
  clear hW3
  go_wp2_with fail
  refine (wtypes (unhide HW3) (unhide HA3).ms _ (unhide HO3) (unhide R2) (by have := unhide HZ; simp only [List.length_append]; omega)).mono ?_
  rintro e w4 ⟨rfl, v4, hW4, hF4⟩
  have F4 := F3.trans hF4
  have HW4 := hide hW4
  have HO4 := hide ((unhide HO).step (unhide H1) F4)
  have HA4 := hide ((unhide HA).fr F4.fr (unhide HO).no)
  have g4 := cell_at (Wrote.kept (unhide HW) F4 (Nat.le_refl _) (unhide HB)) 0
  have j4 := cell_at (Wrote.kept (unhide HW) F4 (Nat.le_succ _) (unhide HC)) 3
  simp at g4 j4
  clear hW4
  go_wp2_with fail
  refine (wcode (unhide HW4) (unhide HA4).cs _ (unhide HO4) (unhide R3) (by have := unhide HZ; simp only [List.length_append]; omega)).mono ?_
  rintro e w5 ⟨rfl, v5, hW5, hF5⟩
  have F5 := F4.trans hF5
  have HW5 := hide hW5
  have HO5 := hide ((unhide HO).step (unhide H1) F5)
  have HA5 := hide ((unhide HA).fr F5.fr (unhide HO).no)
  have g5 := cell_at (Wrote.kept (unhide HW) F5 (Nat.le_refl _) (unhide HB)) 0
  have j5 := cell_at (Wrote.kept (unhide HW) F5 (Nat.le_succ _) (unhide HC)) 4
  simp at g5 j5
  clear hW5
  go_wp2_with fail
  refine (wtables (unhide HW5) (unhide HA5).ts _ (unhide HO5) (unhide R4) (by have := unhide HZ; simp only [List.length_append]; omega)).mono ?_
  rintro e w6 ⟨rfl, v6, hW6, hF6⟩
  go_wp2
  go_end0
  exact ⟨rfl, v6, by unfold acB; simp only [List.append_assoc] at hW6 ⊢; exact hW6, (F5.trans hF6).pre hf1⟩

set_option maxHeartbeats 2000000 in
theorem wmodule {lo hi : Nat} {w : World} {b : Nat} {v : Value} (h : W6 w b v []) {a : Option Addr} {n : Nat} {m : List Ac} (hl : AcA lo hi w a n m) (c : Nat) (ho : Off hi b v) (hr : rightE m = 0) :
    Calls Try.prog 28 #[wrV b, moV a n c] w (Wrt w b v (moB m)) := by
  have hs := hl.small
  have hln := hl.len
  have hz := moB_le hr
  obtain ⟨_, hr2⟩ := rightE_ok hr
  obtain ⟨_, hr3⟩ := rightM_yes hr2
  have HR := hide hr3
  have HZ := hide (show 3 + (Lib.uvarint n).length + (m.flatMap acB).length ≤ 65536 by
    unfold moB magB at hz; simp only [List.length_append, List.length_cons, List.length_nil, hln] at hz; omega)
  have hf1 : Q0 w ((w.alloc (.cells #[.pointer (some ⟨b, 0, none⟩)] 69)).alloc (.cells #[.slice a n c] 25)) := ((Fr.refl _ w).alloc _).alloc _
  have hb1 : ((w.alloc (.cells #[.pointer (some ⟨b, 0, none⟩)] 69)).alloc (.cells #[.slice a n c] 25)).heap[w.heap.size]? = some (.cells #[.pointer (some ⟨b, 0, none⟩)] 69 (0, 0)) := blk_alloc (blk_new w _)
  have hb2 : ((w.alloc (.cells #[.pointer (some ⟨b, 0, none⟩)] 69)).alloc (.cells #[.slice a n c] 25)).heap[w.heap.size + 1]? = some (.cells #[.slice a n c] 25 (0, 0)) := by
    have := blk_new (w.alloc (.cells #[.pointer (some ⟨b, 0, none⟩)] 69)) (.cells #[.slice a n c] 25)
    simpa using this
  have H1 := hide (h.q0 hf1)
  have HB := hide hb1
  have HC := hide hb2
  have HW := hide h
  have HA := hide (AcA.fr hl hf1 q0_no)
  have HO := hide ho
  have HN := hide hln
  clear hb1 hb2 h ho hr hl hz hr2 hr3 hln
  go_enter Try.func28, Try.ntmps28
  go_wp2_with fail
  refine (wraw (unhide H1) _ (by show 0 + 3 ≤ 65536; omega)).mono ?_
  rintro e w2 ⟨rfl, v2, hW2, hF2⟩
  have HW2 := hide hW2
  have g2 := cell_at (Wrote.kept (unhide HW) hF2 (Nat.le_refl _) (unhide HB)) 0
  have j2 := cell_at (Wrote.kept (unhide HW) hF2 (Nat.le_succ _) (unhide HC)) 0
  simp at g2 j2
  clear hW2
  go_wp2_with fail
  refine (wcount (unhide HW2) n hs (by have := unhide HZ; show (3 : Nat) + _ ≤ _; omega)).mono ?_
  rintro e w3 ⟨rfl, v3, hW3, hF3⟩
  have F3 := hF2.trans hF3
  have HW3 := hide hW3
  have g3 := cell_at (Wrote.kept (unhide HW) F3 (Nat.le_refl _) (unhide HB)) 0
  have j3 := cell_at (Wrote.kept (unhide HW) F3 (Nat.le_succ _) (unhide HC)) 0
  simp at g3 j3
  clear hW3 hF2 hF3 g2 j2
  go_wp2
  generalize (w.alloc (.cells #[.pointer (some ⟨b, 0, none⟩)] 69)).alloc (.cells #[.slice a n c] 25) = w1 at *
  go_loopw [16] (fun ix w' => ∃ (k : Nat) (v' : Value), k ≤ n ∧ ix = .int .i64 k ∧ W6 w' b v' (magB ++ (Lib.uvarint n ++ (m.take k).flatMap acB)) ∧ Wrote w1 w' b v v') (fun ix w' => n - (intOf ix).toNat)
  case atStart => exact ⟨0, v3, Nat.zero_le _, rfl, by simpa [magB] using unhide HW3, F3⟩
  case round =>
    clear F3 g3 j3
    obtain ⟨k, v', hk, rfl, hW, hF⟩ := hrel
    by_cases hlt : k < n
    · have k0 := cell_at (Wrote.kept (unhide HW) hF (Nat.le_refl _) (unhide HB)) 0
      simp at k0
      have HO' := hide ((unhide HO).step (unhide H1) hF)
      obtain ⟨blk, off, s, x, rfl, _, _, hx, hp, c0, c1, c2, c3, c4⟩ := AcA.get (AcA.fr (unhide HA) hF.fr (unhide HO).no) hlt
      have HR1 := hide (show rightA x m.length = true from unhide HR x (List.mem_of_getElem? hx))
      have HS := hide (flat_take acB hx)
      have hwk := lt_of_blk (Wrote.kept (unhide HW) hF (Nat.le_refl _) (unhide HB))
      have q1 : Q0 wr (wr.alloc (.cells #[slV (s 0), slV (s 1), slV (s 2), slV (s 3), slV (s 4)] 42)) := (Fr.refl _ wr).alloc _
      have HP := hide (hp.fr q1 q0_no)
      have hlen := hide (show (magB ++ (Lib.uvarint n ++ (m.take k).flatMap acB)).length + (acB x).length ≤ 65536 by
        have h1 := unhide HZ
        have h2 := flat_upto acB m (k := k + 1) (by rw [unhide HN]; omega)
        rw [unhide HS] at h2
        simp only [magB, List.length_append, List.length_cons, List.length_nil] at h2 ⊢
        omega)
      have HWk := hide hW
      clear hW hx hp
      go_wp2_with (go_at_call 44; refine (wactor ((unhide HWk).q0 q1) (unhide HP) (unhide HO') (unhide HR1) (unhide hlen)).mono ?_; rintro e w4 ⟨rfl, v4, hW4, hF4⟩)
      go_roundw
      case rel => exact ⟨k + 1, v4, by omega, by go_num, by rw [unhide HS]; simp only [List.append_assoc] at hW4 ⊢; exact hW4, (hF.then q1).trans hF4⟩
      case measure => simp [intOf]; omega
    · have HE := hide (show magB ++ (Lib.uvarint n ++ (m.take k).flatMap acB) = moB m by
        unfold moB; rw [flat_all _ (by rw [unhide HN]; exact hlt), unhide HN])
      go_wp2
      go_end0
      exact ⟨rfl, v', by rw [← unhide HE]; exact hW, hF.pre hf1⟩

/-- what Bytes tells -/
def bytesT (m : List Ac) : ByteArray := if rightE m = 0 then ba (moB m) else ⟨#[]⟩

set_option maxHeartbeats 2000000 in
theorem mbytes_calls {lo hi : Nat} {w : World} {a : Option Addr} {n : Nat} {m : List Ac} (h : AcA lo hi w a n m) (hh : hi ≤ w.heap.size) (c : Nat) :
    Calls Try.prog 10 #[moV a n c] w fun e w' => e = .returned (.tuple #[.string (bytesT m), .int .i64 (rightE m)]) ∧ Q0 w w' := by
  have hf1 : Q0 w (w.alloc (.cells #[.slice a n c] 25)) := (Fr.refl _ w).alloc _
  have hb1 : (w.alloc (.cells #[.slice a n c] 25)).heap[w.heap.size]? = some (.cells #[.slice a n c] 25 (0, 0)) := blk_new w _
  have H1 := hide (AcA.fr h hf1 q0_no)
  have HB := hide hb1
  clear hb1 h
  by_cases hr : rightE m = 0
  · have HE := hide hr
    have HT := hide (show bytesT m = ba (moB m) by unfold bytesT; rw [if_pos hr])
    clear hr
    go_enter Try.func10, Try.ntmps10
    go_wp2_with fail
    refine (mright_calls (unhide H1) _).mono ?_
    rw [unhide HE]
    rintro e w2 ⟨rfl, hF2⟩
    have HA2 := hide (AcA.fr (unhide H1) hF2 q0_no)
    have HB2 := hide (hF2.blk (unhide HB) (fun h => h))
    have hsz := Nat.le_trans hf1.size hF2.size
    go_wp2_with fail
    refine (new_calls 65536 _ (by omega) (by omega)).mono ?_
    rw [show max (65536 : Int) 0 = 65536 from rfl]
    rintro e w3 ⟨rfl, hW3, hF3⟩
    have HW3 := hide (show W6 w3 w2.heap.size (.slice none 0 0) [] from hW3)
    have h3 := lt_of_blk hW3.blk
    have HA3 := hide (AcA.fr (unhide HA2) hF3 q0_no)
    have HB3 := hide (hF3.blk (unhide HB2) (fun h => h))
    have g3 := cell_at (unhide HB3) 0
    simp at g3
    have hlt3 := lt_of_blk (unhide HB3)
    have q4 : Q0 w3 (w3.alloc (.cells #[.pointer (some ⟨w2.heap.size, 0, none⟩)] 69)) := (Fr.refl _ w3).alloc _
    have hb4 : (w3.alloc (.cells #[.pointer (some ⟨w2.heap.size, 0, none⟩)] 69)).heap[w3.heap.size]? = some (.cells #[.pointer (some ⟨w2.heap.size, 0, none⟩)] 69 (0, 0)) := blk_new w3 _
    have HB4 := hide hb4
    clear hW3 hb4
    go_wp2_with fail
    refine (wmodule ((unhide HW3).q0 q4) (AcA.fr (unhide HA3) q4 q0_no) _ ⟨by omega, fun k hk => by simp [Value.ownBlock] at hk⟩ (unhide HE)).mono ?_
    rintro e w5 ⟨rfl, v5, hW5, hF5⟩
    have g5 := cell_at (hF5.kept (unhide HW3) (Nat.le_refl _) (unhide HB4)) 0
    simp at g5
    have HF5 : Hid (Q0 w w5) := hide (((hf1.then hF2).then hF3).then q4 |>.trans hF5.fr (fun _ _ h => h) (fun i hi h => by
      rcases h with h | h
      · omega
      · simp [Value.ownBlock] at h))
    have HW5 := hide hW5
    clear hW5
    go_wp2_with (go_at_call 29; refine (done_ok (unhide HW5)).mono ?_; rintro e w' ⟨rfl, rfl⟩)
    go_ret2
    rw [unhide HT, unhide HE]
    exact ⟨rfl, unhide HF5⟩
  · have HT := hide (show bytesT m = ⟨#[]⟩ by unfold bytesT; rw [if_neg hr])
    have hne : (rightE m != 0) = true := bne_iff_ne.2 hr
    clear hr
    go_enter Try.func10, Try.ntmps10
    go_wp2_with (go_at_call 15; refine (mright_calls (unhide H1) _).mono ?_; rintro e w2 ⟨rfl, hF2⟩)
    go_ret2
    rw [unhide HT]
    exact ⟨rfl, hf1.then hF2⟩

end Go.Proofs.Ythdpgachdegcgaa
