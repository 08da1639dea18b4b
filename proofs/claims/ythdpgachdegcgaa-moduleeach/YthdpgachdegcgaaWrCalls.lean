/-
  What Num, Int, Byte, Text, Len and Done of a writer do.
-/
import Derived.Test.YthdpgachdegcgaaWr
import Derived.Lib.BufferRead
import Derived.Laws.IdiomStrings
namespace Go.Proofs.Ythdpgachdegcgaa
open Go.RowKit
set_option linter.unusedVariables false
set_option maxRecDepth 8192

/-- what a call on the writer at b leaves alone, and where its bytes lie now -/
structure Wrote (w w' : World) (b : Nat) (v v' : Value) : Prop where
  fr : Fr (fun k => k = b ∨ v.ownBlock = some k) w w'
  at' : v'.ownBlock = v.ownBlock ∨ ∃ g, v'.ownBlock = some g ∧ w.heap.size ≤ g

theorem Wrote.refl (w : World) (b : Nat) (v : Value) : Wrote w w b v v := ⟨Fr.refl _ _, .inl rfl⟩
theorem Wrote.drewN (w : World) (b : Nat) (v : Value) (n : Nat) : Wrote w (w.drewN n) b v v := ⟨(Fr.refl _ _).drewN _, .inl rfl⟩

/-- room for what is written next: by what there is, or by the limit -/
def Room (L : Int) (xs : List Int) : Prop := (xs.length : Int) + 65600 ≤ 140737488355328 ∨ L ≤ 140737488351232

theorem put_stop {L : Int} {xs : List Int} {E : Int} (ys : List Int) (h : E ≠ 0) : put L (xs, E) ys = (xs, E) := by simp [put, h]
theorem put_long {L : Int} {xs : List Int} {ys : List Int} (h : (ys.length : Int) > L - xs.length) : put L (xs, 0) ys = (xs, 3) := by simp [put, h]
theorem put_ok {L : Int} {xs : List Int} {ys : List Int} (h : (ys.length : Int) ≤ L - xs.length) : put L (xs, 0) ys = (xs ++ ys, 0) := by
  unfold put; rw [if_neg (by simp), if_neg (by simp only; omega)]
theorem bad_stop {xs : List Int} {E : Int} (h : E ≠ 0) : bad (xs, E) = (xs, E) := by simp [bad, h]
theorem bad_ok {xs : List Int} : bad (xs, 0) = (xs, 4) := by simp [bad]

/-- the writer behind a store of a grown slice -/
theorem wrote_store {w w1 : World} {b : Nat} {L : Int} {v v' : Value} {xs zs : List Int} (h : IsW w b L v xs 0) (hg : Grew w w1 v v' zs) :
    IsW (w1.setCell ⟨b, 1, none⟩ v') b L v' zs 0 ∧ Wrote w (w1.setCell ⟨b, 1, none⟩ v') b v v' := by
  have hb1 := hg.fr.blk h.blk (fun e => h.row e)
  have hlt := lt_of_blk h.blk
  have hn : v'.ownBlock ≠ some b := by
    rcases hg.at' with e | ⟨g, e, hs⟩
    · rw [e]; exact h.row
    · rw [e]; intro e2; cases e2; omega
  refine ⟨⟨by rw [blk_setCell hb1]; rfl, ?_⟩, ⟨?_, hg.at'⟩⟩
  · exact owns_fr hg.own (Fr.set1 w1 b 1 v') (fun k hk e => hn (by rw [hk, e]))
  · exact (hg.fr.mono (T := fun k => k = b ∨ v.ownBlock = some k) (fun _ _ h => .inr h)).setAt b 1 v' (.inr (.inl rfl))

theorem appendInt {w : World} {v : Value} {xs : List Int} (n : Int) (hn0 : 0 ≤ n) (hn : n ≤ 18446744073709551615) (h : w.ownsRow 0 5 1 v xs.length (xs.map (Value.int .u8))) (hx : xs.length + 10 ≤ 140737488355328) :
    Calls Try.prog 86 #[v, .int .u64 n] w fun e w' => ∃ v', e = .returned v' ∧ Grew w w' v v' (xs ++ vb n.toNat) := by
  obtain ⟨m, rfl⟩ := Int.eq_ofNat_of_zero_le hn0
  exact appendNum m hn h hx

theorem owns_drewN {w : World} {base : Nat} {e : TypeId} {size : Nat} {v : Value} {n : Nat} {xs : List Value} (h : w.ownsRow base e size v n xs) (k : Nat) : (w.drewN k).ownsRow base e size v n xs :=
  owns_fr h ((Fr.refl (fun _ => False) w).drewN k) (fun _ _ h => h)

theorem Grew.start {w : World} {v : Value} {xs : List Int} (h : w.ownsRow 0 5 1 v xs.length (xs.map (Value.int .u8))) (n : Nat) : Grew w (w.drewN n) v v xs :=
  ⟨owns_drewN h n, (Fr.refl _ w).drewN n, .inl rfl⟩

/-- a row's value, written out -/
theorem Grew.slice {w w' : World} {v v' : Value} {xs : List Int} (h : Grew w w' v v' xs) : ∃ a k c, v' = .slice a k c := by
  rcases h.own.2 with ⟨rfl, hn⟩ | ⟨g, cap, cur, rfl, _⟩
  · exact ⟨none, 0, 0, rfl⟩
  · exact ⟨_, _, _, rfl⟩

theorem Grew.undrew {w w' : World} {v v' : Value} {xs : List Int} {n : Nat} (h : Grew (w.drewN n) w' v v' xs) : Grew w w' v v' xs :=
  ⟨h.own, ⟨h.fr.os, h.fr.tape, h.fr.output, h.fr.size, h.fr.block⟩, h.at'⟩

set_option maxHeartbeats 1000000 in
theorem num_calls {w : World} {b : Nat} {L : Int} {v : Value} {xs : List Int} {E : Int} (h : IsW w b L v xs E) (n : Int) (hn0 : 0 ≤ n) (hn : n ≤ 18446744073709551615)
    (h0 : 0 ≤ L) (h1 : L ≤ 9223372036854775807) (hx : xs.length ≤ 9223372036854775807) (hr : Room L xs) :
    Calls Try.prog 64 #[.pointer (some ⟨b, 0, none⟩), .int .u64 n] w fun e w' => e = .returned (.tuple #[]) ∧
      ∃ v', IsW w' b L v' (put L (xs, E) (vb n.toNat)).1 (put L (xs, E) (vb n.toNat)).2 ∧ Wrote w w' b v v' := by
  by_cases hE : E = 0
  · subst hE
    have hvl := vb_le n.toNat (by omega)
    by_cases hl : ((vb n.toNat).length : Int) > L - xs.length
    · rw [put_long hl]
      go_enter Try.func64, Try.ntmps64
      go_wp2_with (go_at_call 85; refine (numLen _ _ hn0 hn).mono ?_; rintro e w' ⟨rfl, rfl⟩)
      go_wp2_with (go_at_call 84; refine (reserve_long h h0 h1 hx _ hl).mono ?_; rintro e w' ⟨rfl, hW, hF⟩)
      go_end0
      exact ⟨rfl, v, hW, hF.mono (fun _ _ h => .inl h), .inl rfl⟩
    · have hl' : ((vb n.toNat).length : Int) ≤ L - xs.length := by omega
      rw [put_ok hl']
      have hroom : xs.length + 10 ≤ 140737488355328 := by rcases hr with hr | hr <;> omega
      have hnn : ((n.toNat : Nat) : Int) = n := by omega
      have HN : Hid (((n.toNat : Nat) : Int) = n) := hnn
      clear hnn hr
      go_enter Try.func64, Try.ntmps64
      go_wp2_with (go_at_call 85; refine (numLen _ _ hn0 hn).mono ?_; rintro e w' ⟨rfl, rfl⟩)
      go_wp2_with (go_at_call 84; refine (reserve_ok h h0 h1 hx _ hl').mono ?_; rintro e w' ⟨rfl, nq, rfl⟩; have c1 := cell_at h.blk 1; simp at c1)
      go_wp2_with (go_at_call 86; refine (appendInt _ hn0 hn (owns_drewN h.own nq) hroom).mono ?_; rintro e w' ⟨v', rfl, hg'⟩; have hg := hg'.undrew; clear hg'; have hb1 := hg.fr.blk h.blk (fun e => h.row e); have f1 := free_at hb1 1; have d1 := cell_at hb1 1; simp at d1; clear hb1; obtain ⟨a', k', c', hv'⟩ := hg.slice; subst hv')
      go_end0
      exact ⟨rfl, _, (wrote_store h hg).1, (wrote_store h hg).2⟩
  · rw [put_stop _ hE]
    go_enter Try.func64, Try.ntmps64
    go_wp2_with (go_at_call 85; refine (numLen _ _ hn0 hn).mono ?_; rintro e w' ⟨rfl, rfl⟩)
    go_wp2_with (go_at_call 84; refine (reserve_no h hE _).mono ?_; rintro e w' ⟨rfl, rfl⟩)
    go_end0
    exact ⟨rfl, v, h, Wrote.refl _ _ _⟩

set_option maxHeartbeats 1000000 in
theorem int_calls {w : World} {b : Nat} {L : Int} {v : Value} {xs : List Int} {E : Int} (h : IsW w b L v xs E) (n : Int) (hn0 : -9223372036854775808 ≤ n) (hn : n ≤ 9223372036854775807)
    (h0 : 0 ≤ L) (h1 : L ≤ 9223372036854775807) (hx : xs.length ≤ 9223372036854775807) (hr : Room L xs) :
    Calls Try.prog 89 #[.pointer (some ⟨b, 0, none⟩), .int .i64 n] w fun e w' => e = .returned (.tuple #[]) ∧
      ∃ v', IsW w' b L v' (put L (xs, E) (vb (Lib.zigzag n))).1 (put L (xs, E) (vb (Lib.zigzag n))).2 ∧ Wrote w w' b v v' := by
  have hz : (Lib.zigzag n : Int) ≤ 18446744073709551615 := by unfold Lib.zigzag; split <;> omega
  go_enter Try.func89, Try.ntmps89
  go_wp2_with (go_at_call 100; refine (unsigned _ _ hn0 hn).mono ?_; rintro e w' ⟨rfl, rfl⟩)
  go_wp2_with (go_at_call 64; refine (num_calls h _ (by omega) hz h0 h1 hx hr).mono ?_; rintro e w' ⟨rfl, v', hW, hF⟩)
  go_end0
  exact ⟨rfl, v', hW, hF⟩

set_option maxHeartbeats 1000000 in
theorem byte_calls {w : World} {b : Nat} {L : Int} {v : Value} {xs : List Int} {E : Int} (h : IsW w b L v xs E) (n : Int)
    (h0 : 0 ≤ L) (h1 : L ≤ 9223372036854775807) (hx : xs.length ≤ 9223372036854775807) (hr : Room L xs) :
    Calls Try.prog 63 #[.pointer (some ⟨b, 0, none⟩), .int .i64 n] w fun e w' => e = .returned (.tuple #[]) ∧
      ∃ v', IsW w' b L v' (if 0 ≤ n ∧ n ≤ 255 then put L (xs, E) [n] else bad (xs, E)).1 (if 0 ≤ n ∧ n ≤ 255 then put L (xs, E) [n] else bad (xs, E)).2 ∧ Wrote w w' b v v' := by
  by_cases hb : 0 ≤ n ∧ n ≤ 255
  · rw [if_pos hb]
    obtain ⟨hb0, hb1⟩ := hb
    by_cases hE : E = 0
    · subst hE
      by_cases hl : (1 : Int) > L - xs.length
      · rw [put_long (by simpa using hl)]
        go_enter Try.func63, Try.ntmps63
        go_wp2_with (go_at_call 84; refine (reserve_long h h0 h1 hx _ hl).mono ?_; rintro e w' ⟨rfl, hW, hF⟩)
        go_end0
        exact ⟨rfl, v, hW, hF.mono (fun _ _ h => .inl h), .inl rfl⟩
      · have hl' : (1 : Int) ≤ L - xs.length := by omega
        rw [put_ok (by simpa using hl')]
        have hroom : xs.length + 10 ≤ 140737488355328 := by rcases hr with hr | hr <;> omega
        obtain ⟨i0, hi, hz0, hz1, hz2⟩ := info_parts Try.infoU8
        clear hr
        have f1 := free_at h.blk 1
        go_enter Try.func63, Try.ntmps63
        go_wp2_with (first | (go_at_call 84; refine (reserve_ok h h0 h1 hx _ hl').mono ?_; rintro e w' ⟨rfl, nq, rfl⟩; have c1 := cell_at h.blk 1; simp at c1) | (at_builtin; refine wpList_append_foot _ rfl _ _ 93 rfl 5 i0 (.int .u8 0) 1 1 Try.underlying93 hi hz0 hz1 hz2 rfl (by decide) _ _ _ rfl ((owns_drewN h.own nq).alloc _) ⟨w.heap.size, 0, none⟩ 1 1 [.int .u8 n] rfl rfl (one_c1 _ _ _) (one_c2 _ _) ?c3 ?c4 ?_))
        case c3 => unfold maxLen; omega
        case c4 => omega
        intro v' w' ho hgr ha
        have hg := (Grew.start h.own nq).push (ns := [n]) _ (by simpa using ho) hgr ha
        have hb1 := hg.fr.blk h.blk (fun e => h.row e)
        have g1 := free_at hb1 1
        have d1 := cell_at hb1 1
        simp at d1
        obtain ⟨a', k', c', hv'⟩ := hg.slice
        subst hv'
        clear hb1 ho hgr ha
        go_wp2
        go_end0
        exact ⟨rfl, _, (wrote_store h hg).1, (wrote_store h hg).2⟩
    · rw [put_stop _ hE]
      go_enter Try.func63, Try.ntmps63
      go_wp2_with (go_at_call 84; refine (reserve_no h hE _).mono ?_; rintro e w' ⟨rfl, rfl⟩)
      go_end0
      exact ⟨rfl, v, h, Wrote.refl _ _ _⟩
  · rw [if_neg hb]
    have hc : n < 0 ∨ (¬ n < 0 ∧ 255 < n) := by omega
    by_cases hE : E = 0
    · subst hE
      rw [bad_ok]
      rcases hc with hc | ⟨hc, hd⟩
      all_goals
        go_enter Try.func63, Try.ntmps63
        go_wp2_with (go_at_call 83; refine (fail_yes h _).mono ?_; rintro e w' ⟨rfl, hW, hF⟩)
        exact bodyPost_ret (results_none rfl _ _ _) rfl ⟨rfl, v, hW, hF.mono (fun _ _ h => .inl h), .inl rfl⟩
    · rw [bad_stop hE]
      rcases hc with hc | ⟨hc, hd⟩
      all_goals
        go_enter Try.func63, Try.ntmps63
        go_wp2_with (go_at_call 83; refine (fail_no h hE _).mono ?_; rintro e w' ⟨rfl, rfl⟩)
        exact bodyPost_ret (results_none rfl _ _ _) rfl ⟨rfl, v, h, Wrote.refl _ _ _⟩

set_option maxHeartbeats 400000 in
theorem done_no {w : World} {b : Nat} {L : Int} {v : Value} {xs : List Int} {E : Int} (h : IsW w b L v xs E) (hE : E ≠ 0) :
    Calls Try.prog 29 #[.pointer (some ⟨b, 0, none⟩)] w fun e w' => e = .returned (.tuple #[.string ⟨#[]⟩, .int .i64 E]) ∧ ∃ nq, w' = w.drewN nq := by
  have c2 := cell_at h.blk 2
  simp at c2
  have hE' : (E != 0) = true := bne_iff_ne.2 hE
  clear hE
  go_enter Try.func29, Try.ntmps29
  go_wp2
  go_quiet (fail)
  go_wp2
  go_ret2
  exact ⟨rfl, _, rfl⟩

/-- bytes as the model's numbers -/
def ints (bs : List UInt8) : List Int := bs.map (fun b => (b.toNat : Int))
theorem ints_length (bs : List UInt8) : (ints bs).length = bs.length := by simp [ints]
theorem ints_append (a b : List UInt8) : ints (a ++ b) = ints a ++ ints b := by simp [ints]
theorem vb_ints (n : Nat) : vb n = ints (Lib.uvarint n) := rfl

theorem owns_convert {w : World} {v : Value} {bs : List UInt8} (h : w.ownsRow 0 5 1 v (ints bs).length ((ints bs).map (Value.int .u8))) :
    (convert 93 9 v).run Try.prog w = .ok (.string ⟨bs.toArray⟩) w := by
  rcases h.2 with ⟨rfl, hn⟩ | ⟨g, cap, cur, rfl, _⟩
  · have : bs = [] := by rw [ints_length] at hn; exact List.eq_nil_of_length_eq_zero hn
    subst this
    exact Lib.run_convert_nil_bytes w 93 9 5 0 Try.underlying93 Try.underlying5 Try.underlying9
  · rw [ints_length] at *
    refine run_convert_bytes_back w 93 9 5 ⟨g, 0, none⟩ cap bs Try.underlying93 Try.underlying5 Try.underlying9 (fun j hj => ?_)
    exact h.cells (g := g) rfl j _ (by simp [ints, hj])

set_option maxHeartbeats 400000 in
theorem done_ok {w : World} {b : Nat} {L : Int} {v : Value} {bs : List UInt8} (h : IsW w b L v (ints bs) 0) :
    Calls Try.prog 29 #[.pointer (some ⟨b, 0, none⟩)] w fun e w' => e = .returned (.tuple #[.string ⟨bs.toArray⟩, .int .i64 0]) ∧ w = w' := by
  have c1 := cell_at h.blk 1
  have c2 := cell_at h.blk 2
  simp at c1 c2
  have hcv := owns_convert h.own
  obtain ⟨a, c, rfl⟩ := h.slice
  go_enter Try.func29, Try.ntmps29
  go_wp2
  go_ret2
  exact ⟨rfl, rfl⟩

theorem strCells_ints (s : ByteArray) : Lib.strCells s = (ints s.data.toList).map (Value.int .u8) := by simp [Lib.strCells, ints]

/-- a slice grown again -/
theorem Grew.more {w w1 w' : World} {v u v' : Value} {zs ns : List Int} (hg : Grew w w1 v u zs)
    (ho : w'.ownsRow 0 5 1 v' (zs.length + ns.length) (zs.map (Value.int .u8) ++ ns.map (Value.int .u8))) (hgr : w1.grownBy w' u.ownBlock)
    (ha : v'.ownBlock = u.ownBlock ∨ v'.ownBlock = some w1.heap.size) : Grew w w' v v' (zs ++ ns) := by
  refine ⟨by simpa using ho, hg.fr.grown hgr (fun k hk => ?_), ?_⟩
  · rcases hg.at' with h | ⟨g, h, hs⟩
    · rw [h] at hk; exact .inr hk
    · rw [h] at hk; cases hk; exact .inl hs
  · rcases ha with h | h
    · rw [h]; exact hg.at'
    · exact .inr ⟨_, h, hg.fr.size⟩

/-- a writer behind a byte, a text; what Done tells -/
def byteStep (L : Int) (s : List Int × Int) (n : Int) : List Int × Int := if 0 ≤ n ∧ n ≤ 255 then put L s [n] else bad s
def textStep (L : Int) (s : List Int × Int) (S : ByteArray) : List Int × Int := if S.size ≤ 65535 then put L s (vb S.size ++ ints S.data.toList) else bad s
def doneText (bs : List UInt8) (E : Int) : ByteArray := if E = 0 then ⟨bs.toArray⟩ else ⟨#[]⟩

end Go.Proofs.Ythdpgachdegcgaa
