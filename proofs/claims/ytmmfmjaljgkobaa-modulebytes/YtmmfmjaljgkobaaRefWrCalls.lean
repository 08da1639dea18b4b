/-
  What Num, Int, Byte, Text and Done of the reference's writer do: the same as reel's.
-/
import Derived.Test.YtmmfmjaljgkobaaRefWr
namespace Go.Proofs.Ytmmfmjaljgkobaa
open Go.RowKit
set_option linter.unusedVariables false
set_option maxRecDepth 100000

/-- the writer stays where nothing old is written -/
theorem IsV.below {w w' : World} {b : Nat} {L : Int} {v : Value} {xs : List Int} {E : Int} (h : IsV w b L v xs E) (hb : Below w.heap.size w w') : IsV w' b L v xs E :=
  h.fr (Fr.ofBelow hb (fun _ => False)) (fun h => h) (fun _ _ h => h)

theorem Wrote.after {w w1 w' : World} {b : Nat} {v v' : Value} (hb : Below w.heap.size w w1) (h : Wrote w1 w' b v v') : Wrote w w' b v v' :=
  ⟨(Fr.ofBelow hb _).trans h.fr (fun _ _ h => h) (fun _ _ h => h), by
    rcases h.at' with e | ⟨g, e, hg⟩
    · exact .inl e
    · exact .inr ⟨g, e, Nat.le_trans hb.size hg⟩⟩

theorem owns0 {w : World} {B : Nat} {e : TypeId} {size : Nat} {v : Value} {n : Nat} {xs : List Value} (h : w.ownsRow B e size v n xs) : w.ownsRow 0 e size v n xs := by
  refine ⟨h.1, ?_⟩
  rcases h.2 with h2 | ⟨g, cap, cur, hv, hb, r⟩
  · exact .inl h2
  · exact .inr ⟨g, cap, cur, hv, Nat.zero_le _, r⟩

set_option maxHeartbeats 1000000 in
theorem vnum_calls {w : World} {b : Nat} {L : Int} {v : Value} {xs : List Int} {E : Int} (h : IsV w b L v xs E) (n : Int) (hn0 : 0 ≤ n) (hn : n ≤ 18446744073709551615)
    (h0 : 0 ≤ L) (h1 : L ≤ 9223372036854775807) (hx : xs.length ≤ 9223372036854775807) (hr : Room L xs) :
    Calls Try.prog 24 #[.pointer (some ⟨b, 0, none⟩), .int .u64 n] w fun e w' => e = .returned (.tuple #[]) ∧
      ∃ v', IsV w' b L v' (put L (xs, E) (vb n.toNat)).1 (put L (xs, E) (vb n.toNat)).2 ∧ Wrote w w' b v v' := by
  have hvl := vb_le n.toNat (by omega)
  go_enter Try.func24, Try.ntmps24
  go_wp2_with fail
  refine (digits_int n hn0 hn w).mono ?_
  rintro e w1 ⟨u, rfl, hu⟩
  obtain ⟨g, cap, rfl⟩ := hu.at'
  go_wp2_with fail
  refine (vput_calls (h.below hu.bel) g cap (owns0 hu.own) h0 h1 hx (by omega) hr).mono ?_
  rintro e w2 ⟨rfl, v', hW, hF⟩
  go_wp2_with fail
  go_end0
  exact ⟨rfl, v', hW, Wrote.after hu.bel hF⟩

set_option maxHeartbeats 1000000 in
theorem vint_calls {w : World} {b : Nat} {L : Int} {v : Value} {xs : List Int} {E : Int} (h : IsV w b L v xs E) (n : Int) (hn0 : -9223372036854775808 ≤ n) (hn : n ≤ 9223372036854775807)
    (h0 : 0 ≤ L) (h1 : L ≤ 9223372036854775807) (hx : xs.length ≤ 9223372036854775807) (hr : Room L xs) :
    Calls Try.prog 27 #[.pointer (some ⟨b, 0, none⟩), .int .i64 n] w fun e w' => e = .returned (.tuple #[]) ∧
      ∃ v', IsV w' b L v' (put L (xs, E) (vb (Lib.zigzag n))).1 (put L (xs, E) (vb (Lib.zigzag n))).2 ∧ Wrote w w' b v v' := by
  have hz : (Lib.zigzag n : Int) ≤ 18446744073709551615 := by unfold Lib.zigzag; split <;> omega
  have hvl := vb_le (Lib.zigzag n) (by omega)
  go_enter Try.func27, Try.ntmps27
  go_wp2_with fail
  refine (fold_calls n w hn0 hn).mono ?_
  rintro e w0 ⟨rfl, rfl⟩
  go_wp2_with fail
  refine (digits_calls (Lib.zigzag n) hz w).mono ?_
  rintro e w1 ⟨u, rfl, hu⟩
  obtain ⟨g, cap, rfl⟩ := hu.at'
  go_wp2_with fail
  refine (vput_calls (h.below hu.bel) g cap (owns0 hu.own) h0 h1 hx (by omega) hr).mono ?_
  rintro e w2 ⟨rfl, v', hW, hF⟩
  go_wp2_with fail
  go_end0
  exact ⟨rfl, v', hW, Wrote.after hu.bel hF⟩

set_option maxHeartbeats 1000000 in
theorem vbyte_calls {w : World} {b : Nat} {L : Int} {v : Value} {xs : List Int} {E : Int} (h : IsV w b L v xs E) (n : Int)
    (h0 : 0 ≤ L) (h1 : L ≤ 9223372036854775807) (hx : xs.length ≤ 9223372036854775807) (hr : Room L xs) :
    Calls Try.prog 23 #[.pointer (some ⟨b, 0, none⟩), .int .i64 n] w fun e w' => e = .returned (.tuple #[]) ∧
      ∃ v', IsV w' b L v' (byteStep L (xs, E) n).1 (byteStep L (xs, E) n).2 ∧ Wrote w w' b v v' := by
  by_cases hb : 0 ≤ n ∧ n ≤ 255
  · have e : byteStep L (xs, E) n = put L (xs, E) [n] := by unfold byteStep; rw [if_pos hb]
    rw [e]
    obtain ⟨hb0, hb1⟩ := hb
    clear e
    have hal : Below w.heap.size w (w.alloc (.cells #[.int .u8 n] 5)) := (Below.refl _ _).alloc (Nat.le_refl _) _
    have hu := World.ownsRow_lit (base := 0) (e := 5) (size := 1) w #[.int .u8 n] 1 (Nat.zero_le _) (by decide) rfl
    go_enter Try.func23, Try.ntmps23
    go_wp2_with fail
    refine (vput_calls (ys := [n]) (h.below hal) w.heap.size 1 (by simpa using hu) h0 h1 hx (by simp) hr).mono ?_
    rintro e w2 ⟨rfl, v', hW, hF⟩
    go_wp2_with fail
    go_end0
    exact ⟨rfl, v', hW, Wrote.after hal hF⟩
  · have e : byteStep L (xs, E) n = bad (xs, E) := by unfold byteStep; rw [if_neg hb]
    rw [e]
    clear e
    have hc : n < 0 ∨ (0 ≤ n ∧ 255 < n) := by omega
    have hal : ∀ o, Below w.heap.size w (w.alloc o) := fun o => (Below.refl _ _).alloc (Nat.le_refl _) o
    rcases hc with hc | ⟨hc, hd⟩
    · skip
      go_enter Try.func23, Try.ntmps23
      go_wp2_with fail
      refine (vbad_calls (h.below (hal (.cells #[.int .u8 (n % 256)] 5))) _ _ _).mono ?_
      rintro e w2 ⟨rfl, v', hW, hF⟩
      go_wp2_with fail
      go_end0
      exact ⟨rfl, v', hW, Wrote.after (hal _) hF⟩
    · have hde : decide (n ≤ 255) = false := by simp; omega
      go_enter Try.func23, Try.ntmps23
      go_wp2_with fail
      refine (vbad_calls (h.below (hal (.cells #[.int .u8 (n % 256)] 5))) _ _ _).mono ?_
      rintro e w2 ⟨rfl, v', hW, hF⟩
      go_wp2_with fail
      go_end0
      exact ⟨rfl, v', hW, Wrote.after (hal _) hF⟩

set_option maxHeartbeats 1000000 in
theorem vdone_calls {w : World} {b : Nat} {L : Int} {v : Value} {bs : List UInt8} {E : Int} (h : IsV w b L v (ints bs) E) :
    Calls Try.prog 28 #[.pointer (some ⟨b, 0, none⟩)] w fun e w' => e = .returned (.tuple #[.string (doneText bs E), .int .i64 E]) ∧ ∃ nq, w' = w.drewN nq := by
  have c0 := cell_at h.blk 0
  have c2 := cell_at h.blk 2
  simp at c0 c2
  by_cases hE : E = 0
  · subst hE
    have et : doneText bs 0 = ⟨bs.toArray⟩ := rfl
    rw [et]
    have hcv := owns_convert h.own
    obtain ⟨a, c, rfl⟩ := h.slice
    clear et
    go_enter Try.func28, Try.ntmps28
    go_wp2
    go_ret2
    exact ⟨rfl, 0, rfl⟩
  · have et : doneText bs E = ⟨#[]⟩ := by simp [doneText, hE]
    rw [et]
    have hE' : (E != 0) = true := bne_iff_ne.2 hE
    clear et hE
    go_enter Try.func28, Try.ntmps28
    go_wp2
    go_quiet (fail)
    go_wp2
    go_ret2
    exact ⟨rfl, _, rfl⟩

theorem IsV.alloc' {w : World} {b : Nat} {L : Int} {v : Value} {xs : List Int} {E : Int} (h : IsV w b L v xs E) (o : Obj) : IsV (w.alloc o) b L v xs E :=
  h.fr ((Fr.refl (fun _ => False) w).alloc o) (fun h => h) (fun _ _ h => h)

end Go.Proofs.Ytmmfmjaljgkobaa
