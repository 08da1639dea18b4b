/-
  The document's writer, with room for a module: its calls; types, and an instruction's bytes.
-/
import Derived.Test.YtmmfmjaljgkobaaMoWr
import Derived.Test.YtmmfmjaljgkobaaInRef
namespace Go.Proofs.Ytmmfmjaljgkobaa
open Go.RowKit
set_option linter.unusedVariables false
set_option maxRecDepth 100000

/-- the document's writer with the bytes zs, no error, and room for 2^20 -/
abbrev V6 (w : World) (b : Nat) (v : Value) (zs : List UInt8) : Prop := IsV w b 1048576 v (ints zs) 0

theorem V6.q0 {w w' : World} {b : Nat} {v : Value} {zs : List UInt8} (h : V6 w b v zs) (hf : Q0 w w') : V6 w' b v zs := IsV.fr h hf (fun h => h) (fun _ _ h => h)

theorem keptV {w w1 w' : World} {b : Nat} {v v' : Value} {zs : List UInt8} (h : V6 w b v zs) (hw : Wrote w1 w' b v v') {k : Nat} {o : Obj} (hk : w.heap.size ≤ k) (ho : w1.heap[k]? = some o) : w'.heap[k]? = some o := by
  refine hw.fr.blk ho ?_
  have h1 := lt_of_blk h.blk
  rintro (e | e)
  · omega
  · have := (h.own.lt k e).2; omega
theorem Off.stepV {hi b : Nat} {v v' : Value} {w w' : World} {zs : List UInt8} (h : Off hi b v) (hW : V6 w b v zs) (hw : Wrote w w' b v v') : Off hi b v' := by
  refine ⟨h.1, fun k hk => ?_⟩
  have h1 := lt_of_blk hW.blk
  rcases hw.at' with e | ⟨g, e, hg⟩
  · exact h.2 k (e ▸ hk)
  · rw [e] at hk; cases hk; have := h.1; omega

theorem roomV (zs : List UInt8) : Room 1048576 (ints zs) := .inr (by omega)

/-- what a call on the document's writer leaves -/
abbrev Vrt (w : World) (b : Nat) (v : Value) (zs : List UInt8) (e : Ending) (w' : World) : Prop := e = .returned (.tuple #[]) ∧ ∃ v', V6 w' b v' zs ∧ Wrote w w' b v v'

theorem xnum {w : World} {b : Nat} {v : Value} {zs : List UInt8} (h : V6 w b v zs) (n : Int) (hn0 : 0 ≤ n) (hn : n ≤ 18446744073709551615) (hz : zs.length + (Lib.uvarint n.toNat).length ≤ 65536) :
    Calls Try.prog 24 #[.pointer (some ⟨b, 0, none⟩), .int .u64 n] w (Vrt w b v (zs ++ Lib.uvarint n.toNat)) := by
  refine (vnum_calls h n hn0 hn (by omega) (by omega) (by rw [ints_length]; omega) (roomV zs)).mono ?_
  rw [put_ok (by rw [vb_length, ints_length]; omega), vb_ints, ← ints_append]
  exact fun _ _ h => h

theorem xint {w : World} {b : Nat} {v : Value} {zs : List UInt8} (h : V6 w b v zs) (n : Int) (hn : -9223372036854775808 ≤ n ∧ n ≤ 9223372036854775807) (hz : zs.length + (Lib.uvarint (Lib.zigzag n)).length ≤ 65536) :
    Calls Try.prog 27 #[.pointer (some ⟨b, 0, none⟩), .int .i64 n] w (Vrt w b v (zs ++ Lib.uvarint (Lib.zigzag n))) := by
  refine (vint_calls h n hn.1 hn.2 (by omega) (by omega) (by rw [ints_length]; omega) (roomV zs)).mono ?_
  rw [put_ok (by rw [vb_length, ints_length]; omega), vb_ints, ← ints_append]
  exact fun _ _ h => h

theorem xbyte {w : World} {b : Nat} {v : Value} {zs : List UInt8} (h : V6 w b v zs) (n : Int) (hn : 0 ≤ n ∧ n ≤ 255) (hz : zs.length + 1 ≤ 65536) :
    Calls Try.prog 23 #[.pointer (some ⟨b, 0, none⟩), .int .i64 n] w (Vrt w b v (zs ++ [n.toNat.toUInt8])) := by
  refine (vbyte_calls h n (by omega) (by omega) (by rw [ints_length]; omega) (roomV zs)).mono ?_
  unfold byteStep
  rw [if_pos hn, put_ok (by rw [ints_length]; simp; omega), ints_byte hn, ← ints_append]
  exact fun _ _ h => h

theorem xcount {w : World} {b : Nat} {v : Value} {zs : List UInt8} (h : V6 w b v zs) (n : Nat) (hn : n ≤ 9223372036854775807) (hz : zs.length + (Lib.uvarint n).length ≤ 65536) :
    Calls Try.prog 24 #[.pointer (some ⟨b, 0, none⟩), .int .u64 n] w (Vrt w b v (zs ++ Lib.uvarint n)) := by
  have := xnum h (n : Int) (by omega) (by omega) (by rw [Int.toNat_natCast]; exact hz)
  rwa [Int.toNat_natCast] at this

set_option maxHeartbeats 2000000 in
theorem xtypes {lo hi : Nat} {w : World} {b : Nat} {v : Value} {zs : List UInt8} (h : V6 w b v zs) {a : Option Addr} {n : Nat} {l : List Int} (hl : TyA lo hi w a n l) (c : Nat) (ho : Off hi b v)
    (hr : ∀ t ∈ l, 0 ≤ t ∧ t ≤ 255) (hz : zs.length + (tyB l).length ≤ 65536) :
    Calls Try.prog 25 #[.pointer (some ⟨b, 0, none⟩), .slice a n c] w (Vrt w b v (zs ++ tyB l)) := by
  have hs := hl.small
  have hln := hl.len
  have HA := hide hl
  have HW := hide h
  have HO := hide ho
  have HR := hide hr
  have HN := hide hln
  have HZ := hide (show zs.length + (Lib.uvarint n).length + (l.flatMap (fun t => [t.toNat.toUInt8])).length ≤ 65536 by
    unfold tyB at hz; rw [map_flat, List.length_append, hln] at hz; omega)
  clear h ho hr hln hz hl
  go_enter Try.func25, Try.ntmps25
  go_wp2_with (go_at_call 24; refine (xcount (unhide HW) n hs (by have := unhide HZ; omega)).mono ?_; rintro e w2 ⟨rfl, v2, hW2, hF2⟩)
  have HW2 := hide hW2
  clear hW2
  go_loopw [4] (fun ix w' => ∃ (k : Nat) (v' : Value), k ≤ n ∧ ix = .int .i64 k ∧ V6 w' b v' (zs ++ Lib.uvarint n ++ (l.take k).flatMap (fun t => [t.toNat.toUInt8])) ∧ Wrote w w' b v v') (fun ix w' => n - (intOf ix).toNat)
  case atStart => exact ⟨0, v2, Nat.zero_le _, rfl, by simpa using unhide HW2, hF2⟩
  case round =>
    clear hF2
    obtain ⟨k, v', hk, rfl, hW, hF⟩ := hrel
    by_cases hlt : k < n
    · obtain ⟨p, off, t, rfl, _, _, hx, _, c0⟩ := TyA.get (TyA.fr (unhide HA) hF.fr (unhide HO).no) hlt
      have ht := unhide HR t (List.mem_of_getElem? hx)
      have HS := hide (flat_take (fun t : Int => [t.toNat.toUInt8]) hx)
      have HWk := hide hW
      have hlen := hide (show (zs ++ Lib.uvarint n ++ (l.take k).flatMap (fun t => [t.toNat.toUInt8])).length + 1 ≤ 65536 by
        have h1 := unhide HZ
        have h2 := flat_upto (fun t : Int => [t.toNat.toUInt8]) l (k := k + 1) (by rw [unhide HN]; omega)
        rw [unhide HS] at h2
        simp only [List.length_append, List.length_cons, List.length_nil] at h2 ⊢
        omega)
      clear hW hx
      go_wp2_with (go_at_call 23; refine (xbyte (unhide HWk) _ ht (unhide hlen)).mono ?_; rintro e w3 ⟨rfl, v3, hW3, hF3⟩)
      go_roundw
      case rel => exact ⟨k + 1, v3, by omega, by go_num, by rw [unhide HS, ← List.append_assoc]; exact hW3, hF.trans hF3⟩
      case measure => simp [intOf]; omega
    · have HE := hide (show zs ++ Lib.uvarint n ++ (l.take k).flatMap (fun t => [t.toNat.toUInt8]) = zs ++ tyB l by
        unfold tyB; rw [flat_all _ (by rw [unhide HN]; exact hlt), ← map_flat, unhide HN, List.append_assoc])
      go_wp2
      go_end0
      exact ⟨rfl, v', by rw [← unhide HE]; exact hW, hF⟩

set_option maxHeartbeats 2000000 in
theorem xput {w : World} {b : Nat} {v : Value} {zs : List UInt8} (h : V6 w b v zs) (op a : Int) (hq : rightB op a = true) (hz : zs.length + (insB op a).length ≤ 65536) :
    Calls Try.prog 26 #[.pointer (some ⟨b, 0, none⟩), insV op a] w (Vrt w b v (zs ++ insB op a)) := by
  have q1 : Q0 w (w.alloc (.cells #[.int .i64 op, .int .i64 a] 43)) := (Fr.refl _ w).alloc _
  have b1 : InsAt (w.alloc (.cells #[.int .i64 op, .int .i64 a] 43)) w.heap.size op a := blk_new w _
  have ho := (isOpB_iff op).1 (right_isOp hq)
  have hf := right_fits hq
  have H1 := hide (h.q0 q1)
  have HW := hide h
  have HB := hide b1
  cases hh : hasB op
  · have hI : insB op a = [op.toNat.toUInt8] := by unfold insB; rw [hh]; rfl
    have HI := hide hI
    have HH := hide hh
    have HZ := hide (show zs.length + 1 ≤ 65536 by rw [hI] at hz; simpa using hz)
    clear h b1 hq hz hI hh
    go_enter Try.func26, Try.ntmps26
    go_wp2_with (first
      | (go_at_call 23; refine (xbyte (unhide H1) _ (by omega) (unhide HZ)).mono ?_; rintro e w2 ⟨rfl, v2, hW2, hF2⟩; have i2 : InsAt w2 w.heap.size op a := keptV (unhide HW) hF2 (Nat.le_refl _) (unhide HB); have c0 := i2.c0)
      | (go_at_call 53; refine (xhas_calls _ _).mono ?_; rw [unhide HH]; rintro e w' ⟨rfl, rfl⟩))
    go_end0
    exact ⟨rfl, v2, by rw [unhide HI]; exact hW2, hF2.pre q1⟩
  · have hI : insB op a = [op.toNat.toUInt8] ++ Lib.uvarint (Lib.zigzag a) := by unfold insB; rw [hh]; rfl
    have HI := hide hI
    have HH := hide hh
    have HZ := hide (show zs.length + 1 + (Lib.uvarint (Lib.zigzag a)).length ≤ 65536 by rw [hI] at hz; simp at hz; omega)
    clear h b1 hq hz hI hh
    go_enter Try.func26, Try.ntmps26
    go_wp2_with (first
      | (go_at_call 23; refine (xbyte (unhide H1) _ (by omega) (by have := unhide HZ; omega)).mono ?_; rintro e w2 ⟨rfl, v2, hW2, hF2⟩; have i2 : InsAt w2 w.heap.size op a := keptV (unhide HW) hF2 (Nat.le_refl _) (unhide HB); have c0 := i2.c0; have c1 := i2.c1; have HW2 := hide hW2; clear hW2)
      | (go_at_call 53; refine (xhas_calls _ _).mono ?_; rw [unhide HH]; rintro e w' ⟨rfl, rfl⟩)
      | (go_at_call 27; refine (xint (unhide HW2) _ hf (by have := unhide HZ; simp; omega)).mono ?_; rintro e w3 ⟨rfl, v3, hW3, hF3⟩))
    go_end0
    exact ⟨rfl, v3, by rw [unhide HI, ← List.append_assoc]; exact hW3, (hF2.trans hF3).pre q1⟩

end Go.Proofs.Ytmmfmjaljgkobaa
