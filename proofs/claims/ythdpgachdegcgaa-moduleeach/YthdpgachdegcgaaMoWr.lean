/-
  The writer of a module's parts (it embeds reel's): what each of its calls writes, where there is room.
-/
import Derived.Test.YthdpgachdegcgaaMoRightM
import Derived.Deep.RegionWith
namespace Go.Proofs.Ythdpgachdegcgaa
open Go.RowKit
set_option linter.unusedVariables false
set_option maxRecDepth 8192

/-- reel's writer with the bytes zs, no error, and room for 65536 -/
abbrev W6 (w : World) (b : Nat) (v : Value) (zs : List UInt8) : Prop := IsW w b 65536 v (ints zs) 0
abbrev wrV (b : Nat) : Value := .agg #[.pointer (some ⟨b, 0, none⟩)]

theorem Wrote.trans {w w1 w2 : World} {b : Nat} {v v1 v2 : Value} (h : Wrote w w1 b v v1) (k : Wrote w1 w2 b v1 v2) : Wrote w w2 b v v2 := by
  refine ⟨h.fr.trans k.fr (fun _ _ h => h) ?_, ?_⟩
  · rintro i hi (e | e)
    · exact .inl e
    · rcases h.at' with e' | ⟨g, e', hg⟩
      · exact .inr (e' ▸ e)
      · rw [e'] at e; cases e; omega
  · rcases k.at' with e | ⟨g, e, hg⟩
    · rcases h.at' with e' | ⟨g, e', hg⟩
      · exact .inl (e.trans e')
      · exact .inr ⟨g, e.trans e', hg⟩
    · exact .inr ⟨g, e, Nat.le_trans h.fr.size hg⟩
theorem Wrote.then {w w1 w2 : World} {b : Nat} {v v1 : Value} (h : Wrote w w1 b v v1) (k : Q0 w1 w2) : Wrote w w2 b v v1 := ⟨h.fr.trans k (fun _ _ h => h) (fun _ _ h => h.elim), h.at'⟩
theorem Wrote.pre {w w1 w2 : World} {b : Nat} {v v1 : Value} (k : Q0 w w1) (h : Wrote w1 w2 b v v1) : Wrote w w2 b v v1 :=
  ⟨k.trans h.fr (fun _ _ h => h.elim) (fun _ _ h => h), by
    rcases h.at' with e | ⟨g, e, hg⟩
    · exact .inl e
    · exact .inr ⟨g, e, Nat.le_trans k.size hg⟩⟩

theorem W6.q0 {w w' : World} {b : Nat} {v : Value} {zs : List UInt8} (h : W6 w b v zs) (hf : Q0 w w') : W6 w' b v zs := IsW.fr h hf (fun h => h) (fun _ _ h => h)

/-- what stands apart from a writer and its bytes -/
theorem Wrote.kept {w w1 w' : World} {b : Nat} {v v' : Value} {zs : List UInt8} (h : W6 w b v zs) (hw : Wrote w1 w' b v v') {k : Nat} {o : Obj} (hk : w.heap.size ≤ k) (ho : w1.heap[k]? = some o) : w'.heap[k]? = some o := by
  refine hw.fr.blk ho ?_
  have h1 := lt_of_blk h.blk
  rintro (e | e)
  · omega
  · have := (h.own.lt k e).2; omega

/-- lists below hi, a writer above -/
def Off (hi b : Nat) (v : Value) : Prop := hi ≤ b ∧ ∀ k, v.ownBlock = some k → hi ≤ k
theorem Off.step {hi b : Nat} {v v' : Value} {w w' : World} {zs : List UInt8} (h : Off hi b v) (hW : W6 w b v zs) (hw : Wrote w w' b v v') : Off hi b v' := by
  refine ⟨h.1, fun k hk => ?_⟩
  have h1 := lt_of_blk hW.blk
  rcases hw.at' with e | ⟨g, e, hg⟩
  · exact h.2 k (e ▸ hk)
  · rw [e] at hk; cases hk; have := h.1; omega
theorem Off.no {lo hi b : Nat} {v : Value} (h : Off hi b v) : ∀ k, (k = b ∨ v.ownBlock = some k) → k < lo ∨ hi ≤ k := by
  rintro k (e | e)
  · exact .inr (e ▸ h.1)
  · exact .inr (h.2 k e)

theorem room6 (zs : List UInt8) : Room 65536 (ints zs) := .inr (by omega)

/-- what a call on the writer leaves -/
abbrev Wrt (w : World) (b : Nat) (v : Value) (zs : List UInt8) (e : Ending) (w' : World) : Prop := e = .returned (.tuple #[]) ∧ ∃ v', W6 w' b v' zs ∧ Wrote w w' b v v'

theorem wnum {w : World} {b : Nat} {v : Value} {zs : List UInt8} (h : W6 w b v zs) (n : Int) (hn0 : 0 ≤ n) (hn : n ≤ 18446744073709551615) (hz : zs.length + (Lib.uvarint n.toNat).length ≤ 65536) :
    Calls Try.prog 64 #[.pointer (some ⟨b, 0, none⟩), .int .u64 n] w (Wrt w b v (zs ++ Lib.uvarint n.toNat)) := by
  refine (num_calls h n hn0 hn (by omega) (by omega) (by rw [ints_length]; omega) (room6 zs)).mono ?_
  rw [put_ok (by rw [vb_length, ints_length]; omega), vb_ints, ← ints_append]
  exact fun _ _ h => h

theorem wint {w : World} {b : Nat} {v : Value} {zs : List UInt8} (h : W6 w b v zs) (n : Int) (hn : -9223372036854775808 ≤ n ∧ n ≤ 9223372036854775807) (hz : zs.length + (Lib.uvarint (Lib.zigzag n)).length ≤ 65536) :
    Calls Try.prog 89 #[.pointer (some ⟨b, 0, none⟩), .int .i64 n] w (Wrt w b v (zs ++ Lib.uvarint (Lib.zigzag n))) := by
  refine (int_calls h n hn.1 hn.2 (by omega) (by omega) (by rw [ints_length]; omega) (room6 zs)).mono ?_
  rw [put_ok (by rw [vb_length, ints_length]; omega), vb_ints, ← ints_append]
  exact fun _ _ h => h

theorem ints_byte {n : Int} (h : 0 ≤ n ∧ n ≤ 255) : [n] = ints [n.toNat.toUInt8] := by
  obtain ⟨k, rfl⟩ : ∃ k : Nat, n = k := ⟨n.toNat, by omega⟩
  simp only [ints, List.map_cons, List.map_nil, Int.toNat_natCast, List.cons.injEq, and_true]
  have : (k.toUInt8).toNat = k := by rw [Nat.toUInt8, UInt8.toNat_ofNat']; omega
  omega

theorem wbyte {w : World} {b : Nat} {v : Value} {zs : List UInt8} (h : W6 w b v zs) (n : Int) (hn : 0 ≤ n ∧ n ≤ 255) (hz : zs.length + 1 ≤ 65536) :
    Calls Try.prog 63 #[.pointer (some ⟨b, 0, none⟩), .int .i64 n] w (Wrt w b v (zs ++ [n.toNat.toUInt8])) := by
  refine (byte_calls h n (by omega) (by omega) (by rw [ints_length]; omega) (room6 zs)).mono ?_
  rw [if_pos hn, put_ok (by rw [ints_length]; simp; omega), ints_byte hn, ← ints_append]
  exact fun _ _ h => h

set_option maxHeartbeats 400000 in
theorem wcount {w : World} {b : Nat} {v : Value} {zs : List UInt8} (h : W6 w b v zs) (n : Nat) (hn : n ≤ 9223372036854775807) (hz : zs.length + (Lib.uvarint n).length ≤ 65536) :
    Calls Try.prog 43 #[wrV b, .int .i64 n] w (Wrt w b v (zs ++ Lib.uvarint n)) := by
  have hf1 : Q0 w (w.alloc (.cells #[.pointer (some ⟨b, 0, none⟩)] 69)) := (Fr.refl _ w).alloc _
  have H1 := hide (h.q0 hf1)
  have hz' := hide (show zs.length + (Lib.uvarint (n : Int).toNat).length ≤ 65536 by simpa using hz)
  clear hz h
  go_enter Try.func43, Try.ntmps43
  go_wp2_with (go_at_call 64; refine (wnum (unhide H1) _ (by omega) (by omega) (unhide hz')).mono ?_; rintro e w2 ⟨rfl, v2, hW, hF⟩)
  go_end0
  rw [Int.toNat_natCast] at hW
  exact ⟨rfl, v2, hW, hF.pre hf1⟩

theorem i64_id {x : Int} (h0 : -9223372036854775808 ≤ x) (h1 : x ≤ 9223372036854775807) : IntKind.i64.wrap x = x := by
  rw [IntKind.wrap_i64]; omega

theorem take_bytes (s : ByteArray) {k : Nat} (h : k < s.size) : s.data.toList.take (k + 1) = s.data.toList.take k ++ [((s[k].toNat : Int)).toNat.toUInt8] := by
  rw [List.take_succ_eq_append_getElem (by simpa using h)]
  congr 1
  simp
  rfl

set_option maxHeartbeats 2000000 in
theorem wraw {w : World} {b : Nat} {v : Value} {zs : List UInt8} (h : W6 w b v zs) (s : ByteArray) (hz : zs.length + s.size ≤ 65536) :
    Calls Try.prog 42 #[wrV b, .string s] w (Wrt w b v (zs ++ s.data.toList)) := by
  have hf1 : Q0 w (w.alloc (.cells #[.pointer (some ⟨b, 0, none⟩)] 69)) := (Fr.refl _ w).alloc _
  have hb1 : (w.alloc (.cells #[.pointer (some ⟨b, 0, none⟩)] 69)).heap[w.heap.size]? = some (.cells #[.pointer (some ⟨b, 0, none⟩)] 69 (0, 0)) := blk_new w _
  have H1 := hide (h.q0 hf1)
  have HB := hide hb1
  have HW := hide h
  clear hb1 h
  go_enter Try.func42, Try.ntmps42
  go_wp2
  generalize w.alloc (.cells #[.pointer (some ⟨b, 0, none⟩)] 69) = w1 at *
  go_loopw [7] (fun ix w' => ∃ (k : Nat) (v' : Value), k ≤ s.size ∧ ix = .int .i64 k ∧ W6 w' b v' (zs ++ s.data.toList.take k) ∧ Wrote w1 w' b v v') (fun ix w' => s.size - (intOf ix).toNat)
  case atStart => exact ⟨0, v, Nat.zero_le _, rfl, by simpa using unhide H1, Wrote.refl _ _ _⟩
  case round =>
    obtain ⟨k, v', hk, rfl, hW, hF⟩ := hrel
    by_cases hlt : k < s.size
    · have k0 := cell_at (Wrote.kept (unhide HW) hF (Nat.le_refl _) (unhide HB)) 0
      simp at k0
      have hlt' : (k : Int) < (s.size : Int) := by omega
      have h255 : (s[k].toNat : Int) ≤ 255 := by have := s[k].toNat_lt; omega
      have HWR := hide (i64_id (x := (s[k].toNat : Int)) (by omega) (by omega))
      have HD := hide (hW.q0 ((Fr.refl _ wr).drew))
      have HS := hide (take_bytes s hlt)
      have hlen := hide (show (zs ++ s.data.toList.take k).length + 1 ≤ 65536 by simp; omega)
      clear hW
      go_wp2
      go_region_with (go_at_call 63; rw [unhide HWR]; refine (wbyte (unhide HD) _ ⟨by omega, by omega⟩ (unhide hlen)).mono ?_; rintro e w2 ⟨rfl, v2, hW2, hF2⟩)
      all_goals
        go_wp2
        go_roundw
        case rel => exact ⟨k + 1, v2, by omega, by go_num, by rw [unhide HS, ← List.append_assoc]; exact hW2, (hF.then ((Fr.refl _ wr).drew)).trans hF2⟩
        case measure => simp [intOf]; omega
    · have HE := hide (show zs ++ s.data.toList.take k = zs ++ s.data.toList by rw [List.take_of_length_le (by simp; omega)])
      go_wp2
      go_end0
      exact ⟨rfl, v', by rw [← unhide HE]; exact hW, hF.pre hf1⟩

/-- bytes of the first k -/
theorem flat_take {α : Type} (f : α → List UInt8) {l : List α} {k : Nat} {x : α} (hx : l[k]? = some x) : (l.take (k + 1)).flatMap f = (l.take k).flatMap f ++ f x := by
  obtain ⟨h, rfl⟩ := List.getElem?_eq_some_iff.1 hx
  rw [List.take_succ_eq_append_getElem h, List.flatMap_append]; simp
theorem flat_upto {α : Type} (f : α → List UInt8) (l : List α) {k : Nat} (hk : k ≤ l.length) : ((l.take k).flatMap f).length ≤ (l.flatMap f).length := by
  conv => rhs; rw [← List.take_append_drop k l, List.flatMap_append, List.length_append]
  omega
theorem flat_all {α : Type} (f : α → List UInt8) {l : List α} {k : Nat} (hk : ¬ k < l.length) : (l.take k).flatMap f = l.flatMap f := by rw [List.take_of_length_le (by omega)]
set_option maxHeartbeats 2000000 in
theorem wtypes {lo hi : Nat} {w : World} {b : Nat} {v : Value} {zs : List UInt8} (h : W6 w b v zs) {a : Option Addr} {n : Nat} {l : List Int} (hl : TyA lo hi w a n l) (c : Nat) (ho : Off hi b v)
    (hr : ∀ t ∈ l, 0 ≤ t ∧ t ≤ 255) (hz : zs.length + (tyB l).length ≤ 65536) :
    Calls Try.prog 65 #[wrV b, .slice a n c] w (Wrt w b v (zs ++ tyB l)) := by
  have hs := hl.small
  have hln := hl.len
  have hf1 : Q0 w (w.alloc (.cells #[.pointer (some ⟨b, 0, none⟩)] 69)) := (Fr.refl _ w).alloc _
  have hb1 : (w.alloc (.cells #[.pointer (some ⟨b, 0, none⟩)] 69)).heap[w.heap.size]? = some (.cells #[.pointer (some ⟨b, 0, none⟩)] 69 (0, 0)) := blk_new w _
  have H1 := hide (h.q0 hf1)
  have HB := hide hb1
  have HW := hide h
  have HA := hide (TyA.fr hl hf1 q0_no)
  have HO := hide ho
  have HR := hide hr
  have HN := hide hln
  have HZ := hide (show zs.length + (Lib.uvarint n).length + (l.flatMap (fun t => [t.toNat.toUInt8])).length ≤ 65536 by
    unfold tyB at hz; rw [map_flat, List.length_append, hln] at hz; omega)
  clear hb1 h ho hr hln hz hl
  go_enter Try.func65, Try.ntmps65
  go_wp2_with (go_at_call 43; refine (wcount (unhide H1) n hs (by have := unhide HZ; omega)).mono ?_; rintro e w2 ⟨rfl, v2, hW2, hF2⟩)
  have HW2 := hide hW2
  clear hW2
  generalize w.alloc (.cells #[.pointer (some ⟨b, 0, none⟩)] 69) = w1 at *
  go_loopw [12] (fun ix w' => ∃ (k : Nat) (v' : Value), k ≤ n ∧ ix = .int .i64 k ∧ W6 w' b v' (zs ++ Lib.uvarint n ++ (l.take k).flatMap (fun t => [t.toNat.toUInt8])) ∧ Wrote w1 w' b v v') (fun ix w' => n - (intOf ix).toNat)
  case atStart => exact ⟨0, v2, Nat.zero_le _, rfl, by simpa using unhide HW2, hF2⟩
  case round =>
    clear hF2
    obtain ⟨k, v', hk, rfl, hW, hF⟩ := hrel
    by_cases hlt : k < n
    · have k0 := cell_at (Wrote.kept (unhide HW) hF (Nat.le_refl _) (unhide HB)) 0
      simp at k0
      obtain ⟨p, off, t, rfl, _, _, hx, _, c0⟩ := TyA.get (TyA.fr (unhide HA) hF.fr (unhide HO).no) hlt
      have ht := unhide HR t (List.mem_of_getElem? hx)
      have HS := hide (flat_take (fun t : Int => [t.toNat.toUInt8]) hx)
      have HWk := hide hW
      have hlen := hide (show (zs ++ Lib.uvarint n ++ (l.take k).flatMap (fun t => [t.toNat.toUInt8])).length + 1 ≤ 65536 by
        have h1 := unhide HZ
        have h2 := flat_upto (fun t : Int => [t.toNat.toUInt8]) l (k := k + 1) (by rw [unhide HN]; omega)
        rw [unhide HS] at h2
        simp only [List.length_append, List.length_cons, List.length_nil] at h2 ⊢
        omega)
      clear hW hx
      go_wp2_with (go_at_call 63; refine (wbyte (unhide HWk) _ ht (unhide hlen)).mono ?_; rintro e w3 ⟨rfl, v3, hW3, hF3⟩)
      go_roundw
      case rel => exact ⟨k + 1, v3, by omega, by go_num, by rw [unhide HS, ← List.append_assoc]; exact hW3, hF.trans hF3⟩
      case measure => simp [intOf]; omega
    · have HE := hide (show zs ++ Lib.uvarint n ++ (l.take k).flatMap (fun t => [t.toNat.toUInt8]) = zs ++ tyB l by
        unfold tyB; rw [flat_all _ (by rw [unhide HN]; exact hlt), ← map_flat, unhide HN, List.append_assoc])
      go_wp2
      go_end0
      exact ⟨rfl, v', by rw [← unhide HE]; exact hW, hF.pre hf1⟩

end Go.Proofs.Ythdpgachdegcgaa
