/-
  The writer of a module's parts: its lists.
-/
import Derived.Test.YthdpgachdegcgaaMoWr
namespace Go.Proofs.Ythdpgachdegcgaa
open Go.RowKit
set_option linter.unusedVariables false
set_option maxRecDepth 8192

set_option maxHeartbeats 2000000 in
theorem wcode {lo hi : Nat} {w : World} {b : Nat} {v : Value} {zs : List UInt8} (h : W6 w b v zs) {a : Option Addr} {n : Nat} {l : List (Int × Int)} (hl : PrA lo hi w a n l) (c : Nat) (ho : Off hi b v)
    (hr : ∀ x ∈ l, rightB x.1 x.2 = true) (hz : zs.length + (cdB l).length ≤ 65536) :
    Calls Try.prog 66 #[wrV b, .slice a n c] w (Wrt w b v (zs ++ cdB l)) := by
  have hs := hl.small
  have hln := hl.len
  have hf1 : Q0 w (w.alloc (.cells #[.pointer (some ⟨b, 0, none⟩)] 69)) := (Fr.refl _ w).alloc _
  have hb1 : (w.alloc (.cells #[.pointer (some ⟨b, 0, none⟩)] 69)).heap[w.heap.size]? = some (.cells #[.pointer (some ⟨b, 0, none⟩)] 69 (0, 0)) := blk_new w _
  have H1 := hide (h.q0 hf1)
  have HB := hide hb1
  have HW := hide h
  have HA := hide (PrA.fr hl hf1 q0_no)
  have HO := hide ho
  have HR := hide hr
  have HN := hide hln
  have HZ := hide (show zs.length + (Lib.uvarint n).length + (l.flatMap (fun i : Int × Int => insB i.1 i.2)).length ≤ 65536 by
    unfold cdB at hz; rw [List.length_append, hln] at hz; omega)
  clear hb1 h ho hr hln hz hl
  go_enter Try.func66, Try.ntmps66
  go_wp2_with (go_at_call 43; refine (wcount (unhide H1) n hs (by have := unhide HZ; omega)).mono ?_; rintro e w2 ⟨rfl, v2, hW2, hF2⟩)
  have HW2 := hide hW2
  clear hW2
  generalize w.alloc (.cells #[.pointer (some ⟨b, 0, none⟩)] 69) = w1 at *
  go_loopw [14] (fun ix w' => ∃ (k : Nat) (v' : Value), k ≤ n ∧ ix = .int .i64 k ∧ W6 w' b v' (zs ++ Lib.uvarint n ++ (l.take k).flatMap (fun i : Int × Int => insB i.1 i.2)) ∧ Wrote w1 w' b v v') (fun ix w' => n - (intOf ix).toNat)
  case atStart => exact ⟨0, v2, Nat.zero_le _, rfl, by simpa using unhide HW2, hF2⟩
  case round =>
    clear hF2
    obtain ⟨k, v', hk, rfl, hW, hF⟩ := hrel
    by_cases hlt : k < n
    · have k0 := cell_at (Wrote.kept (unhide HW) hF (Nat.le_refl _) (unhide HB)) 0
      simp at k0
      have HO' := hide ((unhide HO).step (unhide H1) hF)
      obtain ⟨blk, off, p, q, rfl, _, _, hx, _, _, c0, c1⟩ := PrA.get (PrA.fr (unhide HA) hF.fr (unhide HO).no) hlt
      have HR1 := hide (show rightB p q = true from unhide HR (p, q) (List.mem_of_getElem? hx))
      have HS := hide (flat_take (fun i : Int × Int => insB i.1 i.2) hx)
      have hwk := lt_of_blk (Wrote.kept (unhide HW) hF (Nat.le_refl _) (unhide HB))
      have q1 : Q0 wr (wr.alloc (.cells #[.int .i64 p, .int .i64 q] 37)) := (Fr.refl _ wr).alloc _
      have hlen := hide (show (zs ++ Lib.uvarint n ++ (l.take k).flatMap (fun i : Int × Int => insB i.1 i.2)).length + ((fun i : Int × Int => insB i.1 i.2) (p, q)).length ≤ 65536 by
        have h1 := unhide HZ
        have h2 := flat_upto (fun i : Int × Int => insB i.1 i.2) l (k := k + 1) (by rw [unhide HN]; omega)
        rw [unhide HS] at h2
        simp only [List.length_append] at h2 ⊢
        omega)
      have HWk := hide hW
      clear hW hx
      go_wp2_with (first
        | (go_at_call 87; refine (bytesI_ok _ _ _ (unhide HR1)).mono ?_; rintro e w3 ⟨rfl, hF3⟩; have q2 := q1.then hF3; have k1 := cell_at (q2.blk (Wrote.kept (unhide HW) hF (Nat.le_refl _) (unhide HB)) (fun h => h)) 0; simp at k1)
        | (go_at_call 42; refine (wraw ((unhide HWk).q0 q2) _ (by rw [ba_size]; exact unhide hlen)).mono ?_; rw [ba_list]; rintro e w4 ⟨rfl, v4, hW4, hF4⟩))
      go_roundw
      case rel => exact ⟨k + 1, v4, by omega, by go_num, by rw [unhide HS, ← List.append_assoc]; exact hW4, (hF.then q2).trans hF4⟩
      case measure => simp [intOf]; omega
    · have HE := hide (show zs ++ Lib.uvarint n ++ (l.take k).flatMap (fun i : Int × Int => insB i.1 i.2) = zs ++ cdB l by
        unfold cdB; rw [flat_all _ (by rw [unhide HN]; exact hlt), unhide HN, List.append_assoc])
      go_wp2
      go_end0
      exact ⟨rfl, v', by rw [← unhide HE]; exact hW, hF.pre hf1⟩

set_option maxHeartbeats 2000000 in
theorem wclauses {lo hi : Nat} {w : World} {b : Nat} {v : Value} {zs : List UInt8} (h : W6 w b v zs) {a : Option Addr} {n : Nat} {l : List (Int × Int)} (hl : PrA lo hi w a n l) (c : Nat) (ho : Off hi b v)
    (hr : ∀ x ∈ l, clauseB x = true) (hz : zs.length + (clsB l).length ≤ 65536) :
    Calls Try.prog 88 #[wrV b, .slice a n c] w (Wrt w b v (zs ++ clsB l)) := by
  have hs := hl.small
  have hln := hl.len
  have hf1 : Q0 w (w.alloc (.cells #[.pointer (some ⟨b, 0, none⟩)] 69)) := (Fr.refl _ w).alloc _
  have hb1 : (w.alloc (.cells #[.pointer (some ⟨b, 0, none⟩)] 69)).heap[w.heap.size]? = some (.cells #[.pointer (some ⟨b, 0, none⟩)] 69 (0, 0)) := blk_new w _
  have H1 := hide (h.q0 hf1)
  have HB := hide hb1
  have HW := hide h
  have HA := hide (PrA.fr hl hf1 q0_no)
  have HO := hide ho
  have HR := hide hr
  have HN := hide hln
  have HZ := hide (show zs.length + (Lib.uvarint n).length + (l.flatMap clB).length ≤ 65536 by
    unfold clsB at hz; rw [List.length_append, hln] at hz; omega)
  clear hb1 h ho hr hln hz hl
  go_enter Try.func88, Try.ntmps88
  go_wp2_with (go_at_call 43; refine (wcount (unhide H1) n hs (by have := unhide HZ; omega)).mono ?_; rintro e w2 ⟨rfl, v2, hW2, hF2⟩)
  have HW2 := hide hW2
  clear hW2
  generalize w.alloc (.cells #[.pointer (some ⟨b, 0, none⟩)] 69) = w1 at *
  go_loopw [12] (fun ix w' => ∃ (k : Nat) (v' : Value), k ≤ n ∧ ix = .int .i64 k ∧ W6 w' b v' (zs ++ Lib.uvarint n ++ (l.take k).flatMap clB) ∧ Wrote w1 w' b v v') (fun ix w' => n - (intOf ix).toNat)
  case atStart => exact ⟨0, v2, Nat.zero_le _, rfl, by simpa using unhide HW2, hF2⟩
  case round =>
    clear hF2
    obtain ⟨k, v', hk, rfl, hW, hF⟩ := hrel
    by_cases hlt : k < n
    · have k0 := cell_at (Wrote.kept (unhide HW) hF (Nat.le_refl _) (unhide HB)) 0
      simp at k0
      have HO' := hide ((unhide HO).step (unhide H1) hF)
      obtain ⟨blk, off, p, q, rfl, _, _, hx, _, _, c0, c1⟩ := PrA.get (PrA.fr (unhide HA) hF.fr (unhide HO).no) hlt
      have hcl : clauseB (p, q) = true := unhide HR (p, q) (List.mem_of_getElem? hx)
      have hpq : 0 ≤ p ∧ p < 8 ∧ 0 ≤ q ∧ q < 200 := by simp [clauseB] at hcl; omega
      obtain ⟨hp0, hp1, hq0, hq1⟩ := hpq
      clear hcl
      have HS := hide (flat_take clB hx)
      have q1 : Q0 wr (wr.alloc (.cells #[.int .i64 p, .int .i64 q] 89)) := (Fr.refl _ wr).alloc _
      have b1 : (wr.alloc (.cells #[.int .i64 p, .int .i64 q] 89)).heap[wr.heap.size]? = some (.cells #[.int .i64 p, .int .i64 q] 89 (0, 0)) := blk_new wr _
      have HB1 := hide b1
      have hwk := lt_of_blk (Wrote.kept (unhide HW) hF (Nat.le_refl _) (unhide HB))
      have h0k := hF.fr.size
      clear b1
      have hlen := hide (show (zs ++ Lib.uvarint n ++ (l.take k).flatMap clB).length + (clB (p, q)).length ≤ 65536 by
        have h1 := unhide HZ
        have h2 := flat_upto clB l (k := k + 1) (by rw [unhide HN]; omega)
        rw [unhide HS] at h2
        simp only [List.length_append] at h2 ⊢
        omega)
      have HWk := hide hW
      clear hW hx
      have hl1 := hide (show (zs ++ Lib.uvarint n ++ (l.take k).flatMap clB).length + (Lib.uvarint p.toNat).length ≤ 65536 by have := unhide hlen; simp only [clB, List.length_append] at this ⊢; omega)
      have hl2 := hide (show (zs ++ Lib.uvarint n ++ (l.take k).flatMap clB ++ Lib.uvarint p.toNat).length + (Lib.uvarint q.toNat).length ≤ 65536 by have := unhide hlen; simp only [clB, List.length_append] at this ⊢; omega)
      go_wp2_with fail
      refine (wnum ((unhide HWk).q0 q1) _ (by omega) (by omega) (unhide hl1)).mono ?_
      rintro e w4 ⟨rfl, v4, hW4, hF4⟩
      have HW4 := hide hW4
      have k4 := cell_at (hF4.kept (unhide HWk) (Nat.le_refl _) (unhide HB1)) 1
      have k5 := cell_at (Wrote.kept (unhide HW) ((hF.then q1).trans hF4) (Nat.le_refl _) (unhide HB)) 0
      simp at k4 k5
      clear hW4
      go_wp2_with fail
      refine (wnum (unhide HW4) _ (by omega) (by omega) (unhide hl2)).mono ?_
      rintro e w5 ⟨rfl, v5, hW5, hF5⟩
      go_wp2
      go_roundw
      case rel => exact ⟨k + 1, v5, by omega, by go_num, by rw [unhide HS, ← List.append_assoc]; exact (by unfold clB; rw [← List.append_assoc]; exact hW5), ((hF.then q1).trans hF4).trans hF5⟩
      case measure => simp [intOf]; omega
    · have HE := hide (show zs ++ Lib.uvarint n ++ (l.take k).flatMap clB = zs ++ clsB l by
        unfold clsB; rw [flat_all _ (by rw [unhide HN]; exact hlt), unhide HN, List.append_assoc])
      go_wp2
      go_end0
      exact ⟨rfl, v', by rw [← unhide HE]; exact hW, hF.pre hf1⟩

set_option maxHeartbeats 2000000 in
theorem wtables {lo hi : Nat} {w : World} {b : Nat} {v : Value} {zs : List UInt8} (h : W6 w b v zs) {a : Option Addr} {n : Nat} {l : List (List (Int × Int) × Int)} (hl : TbA lo hi w a n l) (c : Nat) (ho : Off hi b v)
    (hr : ∀ x ∈ l, rtabB x = true) (hz : zs.length + (tsB l).length ≤ 65536) :
    Calls Try.prog 67 #[wrV b, .slice a n c] w (Wrt w b v (zs ++ tsB l)) := by
  have hs := hl.small
  have hln := hl.len
  have hf1 : Q0 w (w.alloc (.cells #[.pointer (some ⟨b, 0, none⟩)] 69)) := (Fr.refl _ w).alloc _
  have hb1 : (w.alloc (.cells #[.pointer (some ⟨b, 0, none⟩)] 69)).heap[w.heap.size]? = some (.cells #[.pointer (some ⟨b, 0, none⟩)] 69 (0, 0)) := blk_new w _
  have H1 := hide (h.q0 hf1)
  have HB := hide hb1
  have HW := hide h
  have HA := hide (TbA.fr hl hf1 q0_no)
  have HO := hide ho
  have HR := hide hr
  have HN := hide hln
  have HZ := hide (show zs.length + (Lib.uvarint n).length + (l.flatMap tbB).length ≤ 65536 by
    unfold tsB at hz; rw [List.length_append, hln] at hz; omega)
  clear hb1 h ho hr hln hz hl
  go_enter Try.func67, Try.ntmps67
  go_wp2_with (go_at_call 43; refine (wcount (unhide H1) n hs (by have := unhide HZ; omega)).mono ?_; rintro e w2 ⟨rfl, v2, hW2, hF2⟩)
  have HW2 := hide hW2
  clear hW2
  generalize w.alloc (.cells #[.pointer (some ⟨b, 0, none⟩)] 69) = w1 at *
  go_loopw [12] (fun ix w' => ∃ (k : Nat) (v' : Value), k ≤ n ∧ ix = .int .i64 k ∧ W6 w' b v' (zs ++ Lib.uvarint n ++ (l.take k).flatMap tbB) ∧ Wrote w1 w' b v v') (fun ix w' => n - (intOf ix).toNat)
  case atStart => exact ⟨0, v2, Nat.zero_le _, rfl, by simpa using unhide HW2, hF2⟩
  case round =>
    clear hF2
    obtain ⟨k, v', hk, rfl, hW, hF⟩ := hrel
    by_cases hlt : k < n
    · have k0 := cell_at (Wrote.kept (unhide HW) hF (Nat.le_refl _) (unhide HB)) 0
      simp at k0
      have HO' := hide ((unhide HO).step (unhide H1) hF)
      obtain ⟨blk, off, a', n', c', cl, tm, rfl, _, _, hx, hp, htm, c0, c1⟩ := TbA.get (TbA.fr (unhide HA) hF.fr (unhide HO).no) hlt
      have hcl : rtabB (cl, tm) = true := unhide HR (cl, tm) (List.mem_of_getElem? hx)
      have HCL := hide (show ∀ c ∈ cl, clauseB c = true by simp only [rtabB, Bool.and_eq_true, List.all_eq_true] at hcl; exact hcl.2)
      clear hcl
      have HS := hide (flat_take tbB hx)
      have q1 : Q0 wr (wr.alloc (.cells #[.slice a' n' c', .int .i64 tm] 87)) := (Fr.refl _ wr).alloc _
      have b1 : (wr.alloc (.cells #[.slice a' n' c', .int .i64 tm] 87)).heap[wr.heap.size]? = some (.cells #[.slice a' n' c', .int .i64 tm] 87 (0, 0)) := blk_new wr _
      have HB1 := hide b1
      have HP := hide (PrA.fr hp q1 q0_no)
      have hwk := lt_of_blk (Wrote.kept (unhide HW) hF (Nat.le_refl _) (unhide HB))
      have h0k := hF.fr.size
      clear b1 hp
      have hlen := hide (show (zs ++ Lib.uvarint n ++ (l.take k).flatMap tbB).length + (tbB (cl, tm)).length ≤ 65536 by
        have h1 := unhide HZ
        have h2 := flat_upto tbB l (k := k + 1) (by rw [unhide HN]; omega)
        rw [unhide HS] at h2
        simp only [List.length_append] at h2 ⊢
        omega)
      have HWk := hide hW
      clear hW hx
      have hl1 := hide (show (zs ++ Lib.uvarint n ++ (l.take k).flatMap tbB).length + (clsB cl).length ≤ 65536 by have := unhide hlen; simp only [tbB, List.length_append] at this ⊢; omega)
      have hl2 := hide (show (zs ++ Lib.uvarint n ++ (l.take k).flatMap tbB ++ clsB cl).length + (Lib.uvarint (Lib.zigzag tm)).length ≤ 65536 by have := unhide hlen; simp only [tbB, List.length_append] at this ⊢; omega)
      go_wp2_with fail
      refine (wclauses ((unhide HWk).q0 q1) (unhide HP) _ (unhide HO') (unhide HCL) (unhide hl1)).mono ?_
      rintro e w4 ⟨rfl, v4, hW4, hF4⟩
      have HW4 := hide hW4
      have k4 := cell_at (hF4.kept (unhide HWk) (Nat.le_refl _) (unhide HB1)) 1
      have k5 := cell_at (Wrote.kept (unhide HW) ((hF.then q1).trans hF4) (Nat.le_refl _) (unhide HB)) 0
      simp at k4 k5
      clear hW4
      go_wp2_with fail
      refine (wint (unhide HW4) _ htm (unhide hl2)).mono ?_
      rintro e w5 ⟨rfl, v5, hW5, hF5⟩
      go_wp2
      go_roundw
      case rel => exact ⟨k + 1, v5, by omega, by go_num, by rw [unhide HS, ← List.append_assoc]; exact (by unfold tbB; rw [← List.append_assoc]; exact hW5), ((hF.then q1).trans hF4).trans hF5⟩
      case measure => simp [intOf]; omega
    · have HE := hide (show zs ++ Lib.uvarint n ++ (l.take k).flatMap tbB = zs ++ tsB l by
        unfold tsB; rw [flat_all _ (by rw [unhide HN]; exact hlt), unhide HN, List.append_assoc])
      go_wp2
      go_end0
      exact ⟨rfl, v', by rw [← unhide HE]; exact hW, hF.pre hf1⟩

end Go.Proofs.Ythdpgachdegcgaa
