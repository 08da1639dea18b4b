/-
  The writer of the reference: its memory, and what its calls do to it, the same as reel's.
-/
import Derived.Test.YtmmfmjaljgkobaaWrCalls
namespace Go.Proofs.Ytmmfmjaljgkobaa
open Go.RowKit
set_option linter.unusedVariables false

/-- the reference's writer at block b -/
structure IsV (w : World) (b : Nat) (L : Int) (v : Value) (xs : List Int) (E : Int) : Prop where
  blk : w.heap[b]? = some (.cells #[v, .int .i64 L, .int .i64 E] 98 (0, 0))
  own : w.ownsRow 0 5 1 v xs.length (xs.map (Value.int .u8))

theorem IsV.slice {w : World} {b : Nat} {L : Int} {v : Value} {xs : List Int} {E : Int} (h : IsV w b L v xs E) : ∃ a c, v = .slice a xs.length c := by
  rcases h.own.2 with ⟨rfl, hn⟩ | ⟨g, cap, cur, rfl, _⟩
  · exact ⟨none, 0, by rw [hn]⟩
  · exact ⟨_, _, rfl⟩

theorem IsV.row {w : World} {b : Nat} {L : Int} {v : Value} {xs : List Int} {E : Int} (h : IsV w b L v xs E) : v.ownBlock ≠ some b := by
  intro hb
  rcases h.own.2 with ⟨rfl, hn⟩ | ⟨g, cap, cur, rfl, _, hg, _⟩
  · simp [Value.ownBlock] at hb
  · simp [Value.ownBlock] at hb
    subst hb
    rw [h.blk] at hg
    simp at hg

theorem IsV.fr {S : Nat → Prop} {w w' : World} {b : Nat} {L : Int} {v : Value} {xs : List Int} {E : Int} (h : IsV w b L v xs E) (hf : Fr S w w') (hb : ¬ S b) (hv : ∀ k, v.ownBlock = some k → ¬ S k) : IsV w' b L v xs E :=
  ⟨hf.blk h.blk hb, owns_fr h.own hf hv⟩

set_option maxHeartbeats 400000 in
theorem vnew_calls (L : Int) (w : World) (h0 : -9223372036854775808 ≤ L) (h1 : L ≤ 9223372036854775807) :
    Calls Try.prog 22 #[.int .i64 L] w fun e w' => e = .returned (.pointer (some ⟨w.heap.size, 0, none⟩)) ∧ IsV w' w.heap.size (max L 0) (.slice none 0 0) [] 0 ∧ Fr (fun _ => False) w w' := by
  go_enter Try.func22, Try.ntmps22
  go_wp2
  go_ret
  exact ⟨rfl, ⟨blk_new w _, World.ownsRow_nil _ _ _ _⟩, (Fr.refl _ w).alloc _⟩

set_option maxHeartbeats 400000 in
theorem fold_calls (x : Int) (w : World) (h0 : -9223372036854775808 ≤ x) (h1 : x ≤ 9223372036854775807) :
    Calls Try.prog 54 #[.int .i64 x] w fun e w' => e = .returned (.int .u64 (Lib.zigzag x : Nat)) ∧ w = w' := by
  have hz : (Lib.zigzag x : Int) = if 0 ≤ x then 2 * x else -2 * x - 1 := by unfold Lib.zigzag; split <;> omega
  have HH := hide hz
  clear hz
  go_enter Try.func54, Try.ntmps54
  go_wp2
  all_goals go_ret
  all_goals exact ⟨ret_int (by have := unhide HH; split at this <;> omega), rfl⟩

/-- the bytes that are still to come behind the last digit d -/
def digs (d : Int) (m : Nat) : List Int := if m = 0 then [d] else (d + 128) :: vb m

theorem digs_zero (d : Int) : digs d 0 = [d] := by simp [digs]
theorem digs_pos (d : Int) (m : Nat) (h : 0 < m) : digs d m = (d + 128) :: digs ((m : Int) % 128) (m / 128) := by
  unfold digs
  rw [if_neg (by omega)]
  congr 1
  by_cases hm : m < 128
  · rw [vb_small hm, if_pos (by omega)]
    congr 1
    omega
  · rw [vb_big (x := m) (by omega), if_neg (by omega)]
    congr 1
theorem digs_start (n : Nat) : digs ((n : Int) % 128) (n / 128) = vb n := by
  unfold digs
  by_cases hm : n < 128
  · rw [vb_small hm, if_pos (by omega)]
    congr 1
    omega
  · rw [vb_big (x := n) (by omega), if_neg (by omega)]
    congr 1

/-- a slice of the call's own from block B on, with the bytes ys -/
structure Fresh (B : Nat) (w w' : World) (u : Value) (ys : List Int) : Prop where
  own : w'.ownsRow B 5 1 u ys.length (ys.map (Value.int .u8))
  at' : ∃ g cap, u = .slice (some ⟨g, 0, none⟩) ys.length cap
  bel : Below B w w'

theorem set_last (pre : List Int) (d e : Int) : ((pre ++ [d]).map (Value.int .u8)).set pre.length (.int .u8 e) = (pre ++ [e]).map (Value.int .u8) := by
  simp

theorem get_last (pre : List Int) (d : Int) : ((pre ++ [d]).map (Value.int .u8))[pre.length]? = some (.int .u8 d) := by
  simp

set_option maxHeartbeats 2000000 in
set_option maxRecDepth 100000 in
theorem digits_calls (n : Nat) (hn : (n : Int) ≤ 18446744073709551615) (w : World) :
    Calls Try.prog 52 #[.int .u64 n] w fun e w' => ∃ u, e = .returned u ∧ Fresh w.heap.size w w' u (vb n) := by
  obtain ⟨i0, hi, hz0, hz1, hz2⟩ := info_parts Try.infoU8
  have hvl := vb_le n (by omega)
  go_enter Try.func52, Try.ntmps52
  go_wp2
  go_loopw [0, 3] (fun i u wr => ∃ (m : Nat) (pre : List Int) (d : Int) (g cap : Nat), i = .int .u64 m ∧ (m : Int) ≤ 18446744073709551615 ∧ 0 ≤ d ∧ d ≤ 127 ∧ u = .slice (some ⟨g, 0, none⟩) (pre.length + 1) cap ∧
      wr.ownsRow w.heap.size 5 1 (.slice (some ⟨g, 0, none⟩) (pre.length + 1) cap) (pre.length + 1) ((pre ++ [d]).map (Value.int .u8)) ∧ Hid (pre ++ digs d m = vb n) ∧ Below w.heap.size w wr)
    (fun i _ _ => (intOf i).toNat)
  case atStart =>
    refine ⟨n / 128, [], (n : Int) % 128, w.heap.size, 1, by go_num, by omega, by omega, by omega, rfl, ?_, digs_start n, (Below.refl _ _).alloc (Nat.le_refl _) _⟩
    have := World.ownsRow_lit (base := w.heap.size) (e := 5) (size := 1) w #[.int .u8 ((n : Int) % 128)] 1 (Nat.le_refl _) (by decide) rfl
    simpa using this
  case round =>
    obtain ⟨m, pre, d, g, cap, rfl, hm, hd0, hd1, rfl, hown, hH, hbel⟩ := hrel
    have hpl : pre.length + (digs d m).length = (vb n).length := by rw [← unhide hH]; simp
    by_cases h0 : m = 0
    · subst h0
      have hE := unhide hH
      rw [digs_zero] at hE
      have hF : Fresh w.heap.size w wr (.slice (some ⟨g, 0, none⟩) (pre.length + 1) cap) (vb n) := by
        rw [← hE]
        exact ⟨by simpa using hown, ⟨g, cap, by simp⟩, hbel⟩
      clear hH hE hpl hown hbel
      go_wp2
      go_ret
      exact ⟨_, rfl, hF⟩
    · have hp := digs_pos d m (by omega)
      have hH2 : Hid ((pre ++ [d + 128]) ++ digs ((m : Int) % 128) (m / 128) = vb n) := by
        show _ = _
        rw [← unhide hH, hp]
        simp
      have hlen : pre.length + 2 ≤ 10 := by
        rw [hp] at hpl
        have : 1 ≤ (digs ((m : Int) % 128) (m / 128)).length := by unfold digs; split <;> simp
        simp only [List.length_cons] at hpl
        omega
      have c1 := hown.cellAt pre.length (by omega)
      rw [get_last] at c1
      have f1 := hown.frozenAt pre.length
      have hst := hown.stored pre.length (.int .u8 (d + 128))
      rw [set_last] at hst
      have hgl := hown.lt g rfl
      have hbel2 : Below w.heap.size w (wr.setCell ⟨g, pre.length, none⟩ (.int .u8 (d + 128))) := hbel.setCell (p := ⟨g, pre.length, none⟩) hgl.1 _
      obtain ⟨hown2, _⟩ := hst
      have hpos : (0 : Int) < m := by omega
      have HP := hide hp
      clear hp hH hpl hown
      go_wp2_with (at_builtin; refine wpList_append_own _ rfl _ _ 92 rfl w.heap.size 5 i0 (.int .u8 0) 1 1 Try.underlying92 hi hz0 hz1 hz2 rfl (by decide) _ _ _ rfl (hown2.alloc _) ⟨wr.heap.size, 0, none⟩ 1 1 [.int .u8 ((m : Int) % 128)] rfl rfl ?c1 (one_c2 _ _) ?c3 ?c4 ?c5 ?_)
      case c1 =>
        have hsz : (wr.setCell ⟨g, pre.length, none⟩ (.int .u8 (d + 128))).heap.size = wr.heap.size := by simp [World.setCell]
        have := one_c1 (wr.setCell ⟨g, pre.length, none⟩ (.int .u8 (d + 128))) (.int .u8 ((m : Int) % 128)) 5
        rw [hsz] at this
        exact this
      case c3 => unfold maxLen; omega
      case c4 => omega
      case c5 => have := hbel2.size; simp [World.setCell] at this ⊢; omega
      intro v' w' ho hgr hnn
      have hb' : Below w.heap.size w w' := (hbel2.alloc hbel2.size _).grown hgr (by have := hbel2.size; simp [World.setCell] at this ⊢; omega) (fun k hk => by simp [Value.ownBlock] at hk; omega)
      have hv' : ∃ g' cap', v' = .slice (some ⟨g', 0, none⟩) ((pre ++ [d + 128]).length + 1) cap' := by
        rcases ho.2 with ⟨e, _⟩ | ⟨g', cap', cur, e, _⟩
        · exact absurd e hnn
        · exact ⟨g', cap', by rw [e]; simp⟩
      obtain ⟨g', cap', rfl⟩ := hv'
      have ho' : w'.ownsRow w.heap.size 5 1 (.slice (some ⟨g', 0, none⟩) ((pre ++ [d + 128]).length + 1) cap') ((pre ++ [d + 128]).length + 1) (((pre ++ [d + 128]) ++ [(m : Int) % 128]).map (Value.int .u8)) := by simpa using ho
      clear ho hgr hnn hbel hbel2 hown2 c1 f1 hgl
      go_wp2
      go_roundw
      case rel => exact ⟨m / 128, pre ++ [d + 128], (m : Int) % 128, g', cap', by go_num, by omega, by omega, by omega, by simp, ho', hH2, hb'⟩
      case measure => simp [intOf]; omega

theorem digits_int (n : Int) (hn0 : 0 ≤ n) (hn : n ≤ 18446744073709551615) (w : World) :
    Calls Try.prog 52 #[.int .u64 n] w fun e w' => ∃ u, e = .returned u ∧ Fresh w.heap.size w w' u (vb n.toNat) := by
  obtain ⟨m, rfl⟩ := Int.eq_ofNat_of_zero_le hn0
  exact digits_calls m hn w

theorem vrote_store {w w1 : World} {b : Nat} {L : Int} {v v' : Value} {xs zs : List Int} (h : IsV w b L v xs 0) (hg : Grew w w1 v v' zs) :
    IsV (w1.setCell ⟨b, 0, none⟩ v') b L v' zs 0 ∧ Wrote w (w1.setCell ⟨b, 0, none⟩ v') b v v' := by
  have hb1 := hg.fr.blk h.blk (fun e => h.row e)
  have hlt := lt_of_blk h.blk
  have hn : v'.ownBlock ≠ some b := by
    rcases hg.at' with e | ⟨g, e, hs⟩
    · rw [e]; exact h.row
    · rw [e]; intro e2; cases e2; omega
  refine ⟨⟨by rw [blk_setCell hb1]; rfl, ?_⟩, ⟨?_, hg.at'⟩⟩
  · exact owns_fr hg.own (Fr.set1 w1 b 0 v') (fun k hk e => hn (by rw [hk, e]))
  · exact (hg.fr.mono (T := fun k => k = b ∨ v.ownBlock = some k) (fun _ _ h => .inr h)).setAt b 0 v' (.inr (.inl rfl))

theorem IsV.setE {w : World} {b : Nat} {L : Int} {v : Value} {xs : List Int} {E : Int} (h : IsV w b L v xs E) (n : Nat) (E' : Int) :
    IsV ((w.drewN n).setCell ⟨b, 2, none⟩ (.int .i64 E')) b L v xs E' ∧ Fr (fun k => k = b) w ((w.drewN n).setCell ⟨b, 2, none⟩ (.int .i64 E')) := by
  have hf : Fr (fun k => k = b) w ((w.drewN n).setCell ⟨b, 2, none⟩ (.int .i64 E')) := ((Fr.refl _ w).drewN n).setAt _ _ _ (.inr rfl)
  exact ⟨⟨by rw [blk_setCell (w := w.drewN n) h.blk]; rfl, owns_fr h.own hf (fun k hk e => h.row (by rw [hk, e]))⟩, hf⟩

theorem ints_one (ys : List Int) : ∀ u ∈ ys.map (Value.int .u8), u.oneCell' = true := ints_oneCell _ _

/-- append, the element's facts in one -/
theorem wpList_append_info {P : Program} (w : World) {ops : Array Oper} {rest : List Oper} {o : Oper} {a : Act} {Q : Exit → Act → World → Prop} (hgd : o.guard = none) (s x : Operand) (t : TypeId)
    (ho : o.op = .call { callee := .builtin .append, args := #[s, x], argTypes := #[t, t] })
    (e : TypeId) (z : Value) (size bytes : Nat) (ht : P.underlying t = some (.slice e)) (hin : (P.info? e).map (fun i => (i.zero, i.size, i.bytes)) = some (some z, size, bytes)) (hzs : z.cells.size = size) (hsz : 0 < size)
    (v : Value) (n : Nat) (xs : List Value) (hs : a.eval s = v) (hown : w.ownsRow 0 e size v n xs)
    (ad : Addr) (m c : Nat) (news : List Value) (hx : a.eval x = .slice (some ad) m c) (hl : news.length = m * size) (hnews : ∀ j u, news[j]? = some u → w.cell? (ad.add j) = some u) (h1 : ∀ u ∈ news, u.oneCell' = true)
    (h63 : n + m ≤ maxLen) (hbytes : (n + m) * bytes ≤ 140737488355328)
    (h : ∀ v' w', w'.ownsRow 0 e size v' (n + m) (xs ++ news) → w.grownBy w' v.ownBlock → (v'.ownBlock = v.ownBlock ∨ v'.ownBlock = some w.heap.size) → wpList P ops Q rest (a.put o.dst v') w') : wpList P ops Q (o :: rest) a w := by
  obtain ⟨i0, hi, hz0, hz1, hz2⟩ := info_parts hin
  exact wpList_append_foot w hgd s x t ho e i0 z size bytes ht hi hz0 hz1 hz2 hzs hsz v n xs hs hown ad m c news hx hl hnews h1 h63 hbytes h

set_option maxHeartbeats 1000000 in
theorem vput_calls {w : World} {b : Nat} {L : Int} {v : Value} {xs ys : List Int} {E : Int} (h : IsV w b L v xs E) (g cap : Nat)
    (hu : w.ownsRow 0 5 1 (.slice (some ⟨g, 0, none⟩) ys.length cap) ys.length (ys.map (Value.int .u8)))
    (h0 : 0 ≤ L) (h1 : L ≤ 9223372036854775807) (hx : xs.length ≤ 9223372036854775807) (hy : ys.length ≤ 65600) (hr : Room L xs) :
    Calls Try.prog 51 #[.pointer (some ⟨b, 0, none⟩), .slice (some ⟨g, 0, none⟩) ys.length cap, .bool true] w fun e w' => e = .returned (.tuple #[]) ∧
      ∃ v', IsV w' b L v' (put L (xs, E) ys).1 (put L (xs, E) ys).2 ∧ Wrote w w' b v v' := by
  have c0 := cell_at h.blk 0
  have c1 := cell_at h.blk 1
  have c2 := cell_at h.blk 2
  have f2 := free_at h.blk 2
  simp at c0 c1 c2
  by_cases hE : E = 0
  · subst hE
    by_cases hl : (ys.length : Int) > L - xs.length
    · rw [put_long hl]
      obtain ⟨a, c, rfl⟩ := h.slice
      go_enter Try.func51, Try.ntmps51
      go_wp2
      go_quiet (fail)
      go_wp2
      exact bodyPost_ret (results_none rfl _ _ _) rfl ⟨rfl, _, (h.setE _ 3).1, (h.setE _ 3).2.mono (fun _ _ h => .inl h), .inl rfl⟩
    · have hl' : (ys.length : Int) ≤ L - xs.length := by omega
      rw [put_ok hl']
      have hroom : xs.length + ys.length ≤ 140737488355328 := by rcases hr with hr | hr <;> omega
      have hcells := hide (hu.cells (g := g) rfl)
      obtain ⟨a, c, hv⟩ := h.slice
      have HV := hide hv
      rw [hv] at c0
      have hso := h.own
      rw [hv] at hso
      clear hv hr
      go_enter Try.func51, Try.ntmps51
      go_wp2
      go_quiet (fail)
      go_wp2_with (at_builtin; refine wpList_append_info _ rfl _ _ 92 rfl 5 (.int .u8 0) 1 1 Try.underlying92 Try.infoU8 rfl (by decide) _ _ _ rfl (owns_drewN hso nq) ⟨g, 0, none⟩ ys.length cap (ys.map (Value.int .u8)) rfl (by simp) (by exact unhide hcells) (ints_one ys) ?c3 ?c4 ?_)
      case c3 => unfold maxLen; omega
      case c4 => omega
      intro v' w' ho hgr ha
      have hG : Grew w w' v v' (xs ++ ys) := by
        have := (Grew.start hso nq).more (ns := ys) (by simpa using ho) hgr ha
        rw [unhide HV]
        exact this
      have hb1 := hG.fr.blk h.blk (fun e => h.row e)
      have g1 := free_at hb1 0
      have d1 := cell_at hb1 0
      simp at d1
      obtain ⟨a', k', c', hv'⟩ := hG.slice
      subst hv'
      clear hb1 ho hgr ha
      go_wp2
      go_end0
      exact ⟨rfl, _, (vrote_store h hG).1, (vrote_store h hG).2⟩
  · rw [put_stop _ hE]
    have hE' : (E != 0) = true := bne_iff_ne.2 hE
    clear hE
    go_enter Try.func51, Try.ntmps51
    go_wp2
    exact bodyPost_ret (results_none rfl _ _ _) rfl ⟨rfl, v, h, Wrote.refl _ _ _⟩

set_option maxHeartbeats 1000000 in
theorem vbad_calls {w : World} {b : Nat} {L : Int} {v : Value} {xs : List Int} {E : Int} (h : IsV w b L v xs E) (a : Option Addr) (n c : Nat) :
    Calls Try.prog 51 #[.pointer (some ⟨b, 0, none⟩), .slice a n c, .bool false] w fun e w' => e = .returned (.tuple #[]) ∧
      ∃ v', IsV w' b L v' (bad (xs, E)).1 (bad (xs, E)).2 ∧ Wrote w w' b v v' := by
  have c2 := cell_at h.blk 2
  have f2 := free_at h.blk 2
  simp at c2
  by_cases hE : E = 0
  · subst hE
    rw [bad_ok]
    go_enter Try.func51, Try.ntmps51
    go_wp2
    exact bodyPost_ret (results_none rfl _ _ _) rfl ⟨rfl, _, (h.setE 0 4).1, (h.setE 0 4).2.mono (fun _ _ h => .inl h), .inl rfl⟩
  · rw [bad_stop hE]
    have hE' : (E != 0) = true := bne_iff_ne.2 hE
    clear hE
    go_enter Try.func51, Try.ntmps51
    go_wp2
    exact bodyPost_ret (results_none rfl _ _ _) rfl ⟨rfl, v, h, Wrote.refl _ _ _⟩

end Go.Proofs.Ytmmfmjaljgkobaa
