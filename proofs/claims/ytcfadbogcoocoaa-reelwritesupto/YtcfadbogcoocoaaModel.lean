/-
  What the reference's writer does with an item: the same as reel's.
-/
import Derived.Test.YtcfadbogcoocoaaRefWr
namespace Go.Proofs.Ytcfadbogcoocoaa
open Go.RowKit
set_option linter.unusedVariables false

/-- the writer stays where nothing old is written -/
theorem IsV.below {w w' : World} {b : Nat} {L : Int} {v : Value} {xs : List Int} {E : Int} (h : IsV w b L v xs E) (hb : Below w.heap.size w w') : IsV w' b L v xs E :=
  h.fr (Fr.ofBelow hb (fun _ => False)) (fun h => h) (fun _ _ h => h)

theorem Wrote.after {w w1 w' : World} {b : Nat} {v v' : Value} (hb : Below w.heap.size w w1) (h : Wrote w1 w' b v v') : Wrote w w' b v v' :=
  ⟨(Fr.ofBelow hb _).trans h.fr (fun _ _ h => h) (fun _ _ h => h), by
    rcases h.at' with e | ⟨g, e, hg⟩
    · exact .inl e
    · exact .inr ⟨g, e, Nat.le_trans hb.size hg⟩⟩

theorem owns0 {w : World} {B : Nat} {e : TypeId} {size : Nat} {v : Value} {n : Nat} {xs : List Value} (h : w.ownsRow B e size v n xs) : w.ownsRow 0 e size v n xs := by
  refine ⟨h.1, ?_⟩
  rcases h.2 with h2 | ⟨g, cap, cur, hv, hb, r⟩
  · exact .inl h2
  · exact .inr ⟨g, cap, cur, hv, Nat.zero_le _, r⟩

set_option maxHeartbeats 1000000 in
theorem vnum_calls {w : World} {b : Nat} {L : Int} {v : Value} {xs : List Int} {E : Int} (h : IsV w b L v xs E) (n : Int) (hn0 : 0 ≤ n) (hn : n ≤ 18446744073709551615)
    (h0 : 0 ≤ L) (h1 : L ≤ 9223372036854775807) (hx : xs.length ≤ 9223372036854775807) (hr : Room L xs) :
    Calls Try.prog 32 #[.pointer (some ⟨b, 0, none⟩), .int .u64 n] w fun e w' => e = .returned (.tuple #[]) ∧
      ∃ v', IsV w' b L v' (put L (xs, E) (vb n.toNat)).1 (put L (xs, E) (vb n.toNat)).2 ∧ Wrote w w' b v v' := by
  have hvl := vb_le n.toNat (by omega)
  go_enter Try.func32, Try.ntmps32
  go_wp2_with fail
  refine (digits_int n hn0 hn w).mono ?_
  rintro e w1 ⟨u, rfl, hu⟩
  obtain ⟨g, cap, rfl⟩ := hu.at'
  go_wp2_with fail
  refine (vput_calls (h.below hu.bel) g cap (owns0 hu.own) h0 h1 hx (by omega) hr).mono ?_
  rintro e w2 ⟨rfl, v', hW, hF⟩
  go_wp2_with fail
  go_end0
  exact ⟨rfl, v', hW, Wrote.after hu.bel hF⟩

set_option maxHeartbeats 1000000 in
theorem vint_calls {w : World} {b : Nat} {L : Int} {v : Value} {xs : List Int} {E : Int} (h : IsV w b L v xs E) (n : Int) (hn0 : -9223372036854775808 ≤ n) (hn : n ≤ 9223372036854775807)
    (h0 : 0 ≤ L) (h1 : L ≤ 9223372036854775807) (hx : xs.length ≤ 9223372036854775807) (hr : Room L xs) :
    Calls Try.prog 33 #[.pointer (some ⟨b, 0, none⟩), .int .i64 n] w fun e w' => e = .returned (.tuple #[]) ∧
      ∃ v', IsV w' b L v' (put L (xs, E) (vb (Lib.zigzag n))).1 (put L (xs, E) (vb (Lib.zigzag n))).2 ∧ Wrote w w' b v v' := by
  have hz : (Lib.zigzag n : Int) ≤ 18446744073709551615 := by unfold Lib.zigzag; split <;> omega
  have hvl := vb_le (Lib.zigzag n) (by omega)
  go_enter Try.func33, Try.ntmps33
  go_wp2_with fail
  refine (fold_calls n w hn0 hn).mono ?_
  rintro e w0 ⟨rfl, rfl⟩
  go_wp2_with fail
  refine (digits_calls (Lib.zigzag n) hz w).mono ?_
  rintro e w1 ⟨u, rfl, hu⟩
  obtain ⟨g, cap, rfl⟩ := hu.at'
  go_wp2_with fail
  refine (vput_calls (h.below hu.bel) g cap (owns0 hu.own) h0 h1 hx (by omega) hr).mono ?_
  rintro e w2 ⟨rfl, v', hW, hF⟩
  go_wp2_with fail
  go_end0
  exact ⟨rfl, v', hW, Wrote.after hu.bel hF⟩

set_option maxHeartbeats 1000000 in
theorem vbyte_calls {w : World} {b : Nat} {L : Int} {v : Value} {xs : List Int} {E : Int} (h : IsV w b L v xs E) (n : Int)
    (h0 : 0 ≤ L) (h1 : L ≤ 9223372036854775807) (hx : xs.length ≤ 9223372036854775807) (hr : Room L xs) :
    Calls Try.prog 34 #[.pointer (some ⟨b, 0, none⟩), .int .i64 n] w fun e w' => e = .returned (.tuple #[]) ∧
      ∃ v', IsV w' b L v' (byteStep L (xs, E) n).1 (byteStep L (xs, E) n).2 ∧ Wrote w w' b v v' := by
  by_cases hb : 0 ≤ n ∧ n ≤ 255
  · have e : byteStep L (xs, E) n = put L (xs, E) [n] := by unfold byteStep; rw [if_pos hb]
    rw [e]
    obtain ⟨hb0, hb1⟩ := hb
    clear e
    have hal : Below w.heap.size w (w.alloc (.cells #[.int .u8 n] 5)) := (Below.refl _ _).alloc (Nat.le_refl _) _
    have hu := World.ownsRow_lit (base := 0) (e := 5) (size := 1) w #[.int .u8 n] 1 (Nat.zero_le _) (by decide) rfl
    go_enter Try.func34, Try.ntmps34
    go_wp2_with fail
    refine (vput_calls (ys := [n]) (h.below hal) w.heap.size 1 (by simpa using hu) h0 h1 hx (by simp) hr).mono ?_
    rintro e w2 ⟨rfl, v', hW, hF⟩
    go_wp2_with fail
    go_end0
    exact ⟨rfl, v', hW, Wrote.after hal hF⟩
  · have e : byteStep L (xs, E) n = bad (xs, E) := by unfold byteStep; rw [if_neg hb]
    rw [e]
    clear e
    have hc : n < 0 ∨ (0 ≤ n ∧ 255 < n) := by omega
    have hal : ∀ o, Below w.heap.size w (w.alloc o) := fun o => (Below.refl _ _).alloc (Nat.le_refl _) o
    rcases hc with hc | ⟨hc, hd⟩
    · skip
      go_enter Try.func34, Try.ntmps34
      go_wp2_with fail
      refine (vbad_calls (h.below (hal (.cells #[.int .u8 (n % 256)] 5))) _ _ _).mono ?_
      rintro e w2 ⟨rfl, v', hW, hF⟩
      go_wp2_with fail
      go_end0
      exact ⟨rfl, v', hW, Wrote.after (hal _) hF⟩
    · have hde : decide (n ≤ 255) = false := by simp; omega
      go_enter Try.func34, Try.ntmps34
      go_wp2_with fail
      refine (vbad_calls (h.below (hal (.cells #[.int .u8 (n % 256)] 5))) _ _ _).mono ?_
      rintro e w2 ⟨rfl, v', hW, hF⟩
      go_wp2_with fail
      go_end0
      exact ⟨rfl, v', hW, Wrote.after (hal _) hF⟩

set_option maxHeartbeats 1000000 in
theorem vtext_calls {w : World} {b : Nat} {L : Int} {v : Value} {xs : List Int} {E : Int} (h : IsV w b L v xs E) (s : ByteArray) (hs : s.size ≤ 9223372036854775807)
    (h0 : 0 ≤ L) (h1 : L ≤ 9223372036854775807) (hx : xs.length ≤ 9223372036854775807) (hr : Room L xs) :
    Calls Try.prog 35 #[.pointer (some ⟨b, 0, none⟩), .string s] w fun e w' => e = .returned (.tuple #[]) ∧
      ∃ v', IsV w' b L v' (textStep L (xs, E) s).1 (textStep L (xs, E) s).2 ∧ Wrote w w' b v v' := by
  by_cases hb : s.size ≤ 65535
  · have e : textStep L (xs, E) s = put L (xs, E) (vb s.size ++ ints s.data.toList) := by unfold textStep; rw [if_pos hb]
    rw [e]
    clear e
    have hvl := vb_le s.size (by omega)
    have HSL := hide (Lib.size_eq s)
    obtain ⟨i0, hi, hz0, hz1, hz2⟩ := info_parts Try.infoU8
    go_enter Try.func35, Try.ntmps35
    go_wp2_with fail
    refine (digits_calls s.size (by omega) w).mono ?_
    rintro e w1 ⟨u, rfl, hu⟩
    go_wp2_with (at_builtin; refine wpList_append_foot_string _ rfl _ _ 34 9 rfl 5 i0 Try.underlying34 Try.underlying9 hi hz0 hz1 hz2 _ _ _ rfl (owns0 hu.own) s rfl ?c3 ?c4 ?_)
    case c3 => unfold maxLen; omega
    case c4 => omega
    intro v2 w2 ho hgr ha
    have hsl := unhide HSL
    have hb2 : Below w.heap.size w w2 := hu.bel.grown hgr hu.bel.size (fun k hk => (hu.own.lt k hk).1)
    have ho2 : w2.ownsRow 0 5 1 v2 (vb s.size ++ ints s.data.toList).length ((vb s.size ++ ints s.data.toList).map (Value.int .u8)) := by
      rw [List.map_append, ← strCells_ints, List.length_append, ints_length, ← hsl]
      exact ho
    have hv2 : ∃ g cap, v2 = .slice (some ⟨g, 0, none⟩) (vb s.size ++ ints s.data.toList).length cap := by
      have hp := vb_pos s.size
      rcases ho2.2 with ⟨_, hn⟩ | ⟨g, cap, cur, e, _⟩
      · simp only [List.length_append] at hn; omega
      · exact ⟨g, cap, e⟩
    obtain ⟨g, cap, rfl⟩ := hv2
    have hyl : (vb s.size ++ ints s.data.toList).length ≤ 65600 := by rw [List.length_append, ints_length, ← hsl]; omega
    generalize hys : vb s.size ++ ints s.data.toList = ys at *
    have HYS := hide hys
    clear hys
    clear ho hgr ha hu hsl
    go_wp2_with fail
    refine (vput_calls (h.below hb2) g cap ho2 h0 h1 hx hyl hr).mono ?_
    rintro e w3 ⟨rfl, v', hW, hF⟩
    go_wp2_with fail
    go_end0
    have hys := unhide HYS
    subst hys
    exact ⟨rfl, v', hW, Wrote.after hb2 hF⟩
  · have e : textStep L (xs, E) s = bad (xs, E) := by unfold textStep; rw [if_neg hb]
    rw [e]
    clear e
    have hc : (65535 : Int) < s.size := by omega
    go_enter Try.func35, Try.ntmps35
    go_wp2_with fail
    refine (vbad_calls h _ _ _).mono ?_
    rintro e w2 ⟨rfl, v', hW, hF⟩
    go_wp2_with fail
    exact bodyPost_ret (results_none rfl _ _ _) rfl ⟨rfl, v', hW, hF⟩

set_option maxHeartbeats 1000000 in
theorem vdone_calls {w : World} {b : Nat} {L : Int} {v : Value} {bs : List UInt8} {E : Int} (h : IsV w b L v (ints bs) E) :
    Calls Try.prog 17 #[.pointer (some ⟨b, 0, none⟩)] w fun e w' => e = .returned (.tuple #[.string (doneText bs E), .int .i64 E]) ∧ ∃ nq, w' = w.drewN nq := by
  have c0 := cell_at h.blk 0
  have c2 := cell_at h.blk 2
  simp at c0 c2
  by_cases hE : E = 0
  · subst hE
    have et : doneText bs 0 = ⟨bs.toArray⟩ := rfl
    rw [et]
    have hcv := owns_convert h.own
    obtain ⟨a, c, rfl⟩ := h.slice
    clear et
    go_enter Try.func17, Try.ntmps17
    go_wp2
    go_ret2
    exact ⟨rfl, 0, rfl⟩
  · have et : doneText bs E = ⟨#[]⟩ := by simp [doneText, hE]
    rw [et]
    have hE' : (E != 0) = true := bne_iff_ne.2 hE
    clear et hE
    go_enter Try.func17, Try.ntmps17
    go_wp2
    go_quiet (fail)
    go_wp2
    go_ret2
    exact ⟨rfl, _, rfl⟩

theorem IsV.alloc' {w : World} {b : Nat} {L : Int} {v : Value} {xs : List Int} {E : Int} (h : IsV w b L v xs E) (o : Obj) : IsV (w.alloc o) b L v xs E :=
  h.fr ((Fr.refl (fun _ => False) w).alloc o) (fun h => h) (fun _ _ h => h)

set_option maxHeartbeats 1000000 in
theorem model_calls {w : World} {b : Nat} {L : Int} {v : Value} {xs : List Int} {E : Int} (h : IsV w b L v xs E) (x : It) (hx : x.Ok)
    (h0 : 0 ≤ L) (h1 : L ≤ 9223372036854775807) (hl : xs.length ≤ 9223372036854775807) (hr : Room L xs) :
    Calls Try.prog 14 #[.pointer (some ⟨b, 0, none⟩), .agg x.val] w fun e w' => e = .returned (.tuple #[]) ∧
      ∃ v', IsV w' b L v' (wstep L (xs, E) x).1 (wstep L (xs, E) x).2 ∧ Wrote w w' b v v' := by
  obtain ⟨K, U, N, S⟩ := x
  obtain ⟨hk0, hk1, hu0, hu1, hn0, hn1, hs⟩ := hx
  simp only [It.val]
  simp only at hk0 hk1 hu0 hu1 hn0 hn1 hs
  have hc : K % 4 = 0 ∨ K % 4 = 1 ∨ K % 4 = 2 ∨ K % 4 = 3 := by omega
  have H2 := (h.alloc' (.cells #[.int .i64 K, .int .u64 U, .int .i64 N, .string S] 31)).alloc' (.cells #[.int .i64 K, .int .u64 U, .int .i64 N, .string S] 31)
  rcases hc with hc | hc | hc | hc
  · rw [wstep0 hc]
    have hk0' : (K % 4 == 0) = true := beq_iff_eq.2 hc
    clear hc
    go_enter Try.func14, Try.ntmps14
    go_wp2_with (first | (go_at_call 23; refine (kind_calls K U N S hk0 hk1 _).mono ?_; rintro e w' ⟨rfl, rfl⟩) | (go_at_call 32; refine (vnum_calls H2 U hu0 hu1 h0 h1 hl hr).mono ?_; rintro e w' ⟨rfl, v', hW, hF⟩))
    go_end0
    exact ⟨rfl, v', hW, hF.unalloc.unalloc⟩
  · rw [wstep1 hc]
    have hk0' : (K % 4 == 0) = false := beq_eq_false_iff_ne.2 (by omega)
    have hk1' : (K % 4 == 1) = true := beq_iff_eq.2 hc
    clear hc
    go_enter Try.func14, Try.ntmps14
    go_wp2_with (first | (go_at_call 23; refine (kind_calls K U N S hk0 hk1 _).mono ?_; rintro e w' ⟨rfl, rfl⟩) | (go_at_call 33; refine (vint_calls H2 N hn0 hn1 h0 h1 hl hr).mono ?_; rintro e w' ⟨rfl, v', hW, hF⟩))
    go_end0
    exact ⟨rfl, v', hW, hF.unalloc.unalloc⟩
  · rw [wstep2 hc]
    have hk0' : (K % 4 == 0) = false := beq_eq_false_iff_ne.2 (by omega)
    have hk1' : (K % 4 == 1) = false := beq_eq_false_iff_ne.2 (by omega)
    have hk2' : (K % 4 == 2) = true := beq_iff_eq.2 hc
    clear hc
    go_enter Try.func14, Try.ntmps14
    go_wp2_with (first | (go_at_call 23; refine (kind_calls K U N S hk0 hk1 _).mono ?_; rintro e w' ⟨rfl, rfl⟩) | (go_at_call 34; refine (vbyte_calls H2 N h0 h1 hl hr).mono ?_; rintro e w' ⟨rfl, v', hW, hF⟩))
    go_end0
    exact ⟨rfl, v', hW, hF.unalloc.unalloc⟩
  · rw [wstep3 hc]
    have hk0' : (K % 4 == 0) = false := beq_eq_false_iff_ne.2 (by omega)
    have hk1' : (K % 4 == 1) = false := beq_eq_false_iff_ne.2 (by omega)
    have hk2' : (K % 4 == 2) = false := beq_eq_false_iff_ne.2 (by omega)
    have hk3' : (K % 4 == 3) = true := beq_iff_eq.2 hc
    clear hc
    go_enter Try.func14, Try.ntmps14
    go_wp2_with (first | (go_at_call 23; refine (kind_calls K U N S hk0 hk1 _).mono ?_; rintro e w' ⟨rfl, rfl⟩) | (go_at_call 35; refine (vtext_calls H2 S hs h0 h1 hl hr).mono ?_; rintro e w' ⟨rfl, v', hW, hF⟩))
    go_end0
    exact ⟨rfl, v', hW, hF.unalloc.unalloc⟩


end Go.Proofs.Ytcfadbogcoocoaa
