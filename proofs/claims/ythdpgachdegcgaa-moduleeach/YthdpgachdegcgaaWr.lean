/-
  The writer of package reel: its memory, and what its calls do to it.
-/
import Derived.Test.YthdpgachdegcgaaNums
import Derived.Deep.QuietTactic
import Derived.BigQuiet
import Derived.RegionTactic
import Derived.Deep.DeepFit
namespace Go.Proofs.Ythdpgachdegcgaa
open Go.RowKit
set_option linter.unusedVariables false

/-- the writer at block b: its limit, its slice with the bytes xs, its error -/
structure IsW (w : World) (b : Nat) (L : Int) (v : Value) (xs : List Int) (E : Int) : Prop where
  blk : w.heap[b]? = some (.cells #[.int .i64 L, v, .int .i64 E] 95 (0, 0))
  own : w.ownsRow 0 5 1 v xs.length (xs.map (Value.int .u8))

theorem IsW.slice {w : World} {b : Nat} {L : Int} {v : Value} {xs : List Int} {E : Int} (h : IsW w b L v xs E) : ∃ a c, v = .slice a xs.length c := by
  rcases h.own.2 with ⟨rfl, hn⟩ | ⟨g, cap, cur, rfl, _⟩
  · exact ⟨none, 0, by rw [hn]⟩
  · exact ⟨_, _, rfl⟩

theorem IsW.row {w : World} {b : Nat} {L : Int} {v : Value} {xs : List Int} {E : Int} (h : IsW w b L v xs E) : v.ownBlock ≠ some b := by
  intro hb
  rcases h.own.2 with ⟨rfl, hn⟩ | ⟨g, cap, cur, rfl, _, hg, _⟩
  · simp [Value.ownBlock] at hb
  · simp [Value.ownBlock] at hb
    subst hb
    rw [h.blk] at hg
    simp at hg

theorem IsW.fr {S : Nat → Prop} {w w' : World} {b : Nat} {L : Int} {v : Value} {xs : List Int} {E : Int} (h : IsW w b L v xs E) (hf : Fr S w w') (hb : ¬ S b) (hv : ∀ k, v.ownBlock = some k → ¬ S k) : IsW w' b L v xs E :=
  ⟨hf.blk h.blk hb, owns_fr h.own hf hv⟩

set_option maxHeartbeats 400000 in
theorem new_calls (L : Int) (w : World) (h0 : -9223372036854775808 ≤ L) (h1 : L ≤ 9223372036854775807) :
    Calls Try.prog 27 #[.int .i64 L] w fun e w' => e = .returned (.pointer (some ⟨w.heap.size, 0, none⟩)) ∧ IsW w' w.heap.size (max L 0) (.slice none 0 0) [] 0 ∧ Fr (fun _ => False) w w' := by
  go_enter Try.func27, Try.ntmps27
  go_wp2
  go_ret
  exact ⟨rfl, ⟨blk_new w _, World.ownsRow_nil _ _ _ _⟩, (Fr.refl _ w).alloc _⟩

set_option maxHeartbeats 400000 in
theorem reserve_no {w : World} {b : Nat} {L : Int} {v : Value} {xs : List Int} {E : Int} (h : IsW w b L v xs E) (hE : E ≠ 0) (n : Int) :
    Calls Try.prog 84 #[.pointer (some ⟨b, 0, none⟩), .int .i64 n] w fun e w' => e = .returned (.bool false) ∧ w = w' := by
  have c2 := cell_at h.blk 2
  simp at c2
  have hE' : (E != 0) = true := bne_iff_ne.2 hE
  clear hE
  go_enter Try.func84, Try.ntmps84
  go_wp2
  go_ret
  exact ⟨rfl, rfl⟩

set_option maxHeartbeats 400000 in
theorem reserve_long {w : World} {b : Nat} {L : Int} {v : Value} {xs : List Int} (h : IsW w b L v xs 0) (h0 : 0 ≤ L) (h1 : L ≤ 9223372036854775807) (hx : xs.length ≤ 9223372036854775807) (n : Int) (hn : n > L - xs.length) :
    Calls Try.prog 84 #[.pointer (some ⟨b, 0, none⟩), .int .i64 n] w fun e w' => e = .returned (.bool false) ∧ IsW w' b L v xs 3 ∧ Fr (fun k => k = b) w w' := by
  have c0 := cell_at h.blk 0
  have c1 := cell_at h.blk 1
  have c2 := cell_at h.blk 2
  have f2 := free_at h.blk 2
  simp at c0 c1 c2
  obtain ⟨a, c, rfl⟩ := h.slice
  go_enter Try.func84, Try.ntmps84
  go_wp2
  go_quiet (fail)
  go_wp2
  go_ret
  have hf : Fr (fun k => k = b) w ((w.drewN nq).setCell ⟨b, 2, none⟩ (.int .i64 3)) := ((Fr.refl _ w).drewN _).setAt _ _ _ (.inr rfl)
  exact ⟨rfl, ⟨by rw [blk_setCell (w := w.drewN nq) h.blk]; rfl, owns_fr h.own hf (fun k hk e => h.row (by rw [hk, e]))⟩, hf⟩

set_option maxHeartbeats 400000 in
theorem reserve_ok {w : World} {b : Nat} {L : Int} {v : Value} {xs : List Int} (h : IsW w b L v xs 0) (h0 : 0 ≤ L) (h1 : L ≤ 9223372036854775807) (hx : xs.length ≤ 9223372036854775807) (n : Int) (hn : n ≤ L - xs.length) :
    Calls Try.prog 84 #[.pointer (some ⟨b, 0, none⟩), .int .i64 n] w fun e w' => e = .returned (.bool true) ∧ ∃ nq, w' = w.drewN nq := by
  have c0 := cell_at h.blk 0
  have c1 := cell_at h.blk 1
  have c2 := cell_at h.blk 2
  simp at c0 c1 c2
  obtain ⟨a, c, rfl⟩ := h.slice
  go_enter Try.func84, Try.ntmps84
  go_wp2
  go_quiet (fail)
  go_wp2
  go_ret
  exact ⟨rfl, _, rfl⟩

set_option maxHeartbeats 400000 in
theorem fail_no {w : World} {b : Nat} {L : Int} {v : Value} {xs : List Int} {E : Int} (h : IsW w b L v xs E) (hE : E ≠ 0) (n : Int) :
    Calls Try.prog 83 #[.pointer (some ⟨b, 0, none⟩), .int .i64 n] w fun e w' => e = .returned (.tuple #[]) ∧ w = w' := by
  have c2 := cell_at h.blk 2
  simp at c2
  have hE' : (E == 0) = false := beq_eq_false_iff_ne.2 hE
  clear hE
  go_enter Try.func83, Try.ntmps83
  go_wp2
  go_end0
  exact ⟨rfl, rfl⟩

set_option maxHeartbeats 400000 in
theorem fail_yes {w : World} {b : Nat} {L : Int} {v : Value} {xs : List Int} (h : IsW w b L v xs 0) (n : Int) :
    Calls Try.prog 83 #[.pointer (some ⟨b, 0, none⟩), .int .i64 n] w fun e w' => e = .returned (.tuple #[]) ∧ IsW w' b L v xs n ∧ Fr (fun k => k = b) w w' := by
  have c2 := cell_at h.blk 2
  have f2 := free_at h.blk 2
  simp at c2
  go_enter Try.func83, Try.ntmps83
  go_wp2
  go_end0
  have hf : Fr (fun k => k = b) w (w.setCell ⟨b, 2, none⟩ (.int .i64 n)) := Fr.set1 _ _ _ _
  exact ⟨rfl, ⟨by rw [blk_setCell h.blk]; rfl, owns_fr h.own hf (fun k hk e => h.row (by rw [hk, e]))⟩, hf⟩

theorem Try.infoU8 : (Try.prog.info? 5).map (fun i => (i.zero, i.size, i.bytes)) = some (some (.int .u8 0), 1, 1) := by kernel_rfl

/-- what a row's slice has become: bytes behind, in the old block or a new one -/
structure Grew (w w' : World) (v v' : Value) (xs : List Int) : Prop where
  own : w'.ownsRow 0 5 1 v' xs.length (xs.map (Value.int .u8))
  fr : Fr (fun k => v.ownBlock = some k) w w'
  at' : v'.ownBlock = v.ownBlock ∨ ∃ g, v'.ownBlock = some g ∧ w.heap.size ≤ g

theorem Grew.push {w wr w' : World} {v u v' : Value} {zs ns : List Int} (hg : Grew w wr v u zs) (o : Obj)
    (ho : w'.ownsRow 0 5 1 v' (zs.length + ns.length) (zs.map (Value.int .u8) ++ ns.map (Value.int .u8))) (hgr : (wr.alloc o).grownBy w' u.ownBlock)
    (ha : v'.ownBlock = u.ownBlock ∨ v'.ownBlock = some (wr.heap.size + 1)) : Grew w w' v v' (zs ++ ns) := by
  refine ⟨by simpa using ho, (hg.fr.alloc o).grown hgr (fun k hk => ?_), ?_⟩
  · rcases hg.at' with h | ⟨g, h, hs⟩
    · rw [h] at hk; exact .inr hk
    · rw [h] at hk; cases hk; exact .inl hs
  · rcases ha with h | h
    · rw [h]; exact hg.at'
    · exact .inr ⟨_, h, by have := hg.fr.size; omega⟩

theorem one_c1 (wr : World) (x : Value) (t : TypeId) : ∀ (j : Nat) (u : Value), [x][j]? = some u → (wr.alloc (Obj.cells #[x] t)).cell? ((⟨wr.heap.size, 0, none⟩ : Addr).add j) = some u := by
  intro j u hj
  match j, hj with
  | 0, hj => simp at hj; subst hj; simp [Addr.add]

theorem one_c2 (x : Int) (k : IntKind) : ∀ (u : Value), u ∈ [Value.int k x] → u.oneCell' = true := by
  intro u hu; simp at hu; subst hu; rfl

set_option maxHeartbeats 1000000 in
set_option maxRecDepth 100000 in
theorem appendNum {w : World} {v : Value} {xs : List Int} (n : Nat) (hn : (n : Int) ≤ 18446744073709551615) (h : w.ownsRow 0 5 1 v xs.length (xs.map (Value.int .u8))) (hx : xs.length + 10 ≤ 140737488355328) :
    Calls Try.prog 86 #[v, .int .u64 n] w fun e w' => ∃ v', e = .returned v' ∧ Grew w w' v v' (xs ++ vb n) := by
  obtain ⟨i0, hi, hz0, hz1, hz2⟩ := info_parts Try.infoU8
  have hvl := vb_le n (by omega)
  go_enter Try.func86, Try.ntmps86
  go_wp2
  go_loopw [0, 1] (fun u i wr => ∃ (m : Nat) (ys : List Int), i = .int .u64 m ∧ (m : Int) ≤ 18446744073709551615 ∧ Hid (ys ++ vb m = vb n) ∧ Grew w wr v u (xs ++ ys))
    (fun _ i _ => (intOf i).toNat)
  case atStart => exact ⟨n, [], rfl, hn, rfl, by simpa using h, Fr.refl _ _, .inl rfl⟩
  case round =>
    obtain ⟨m, ys, rfl, hm, hys, hg⟩ := hrel
    have hlen : ys.length + (vb m).length = (vb n).length := by rw [← hys.out]; simp
    have hpos := vb_pos m
    by_cases hlt : m < 128
    · go_wp2_with (at_builtin; refine wpList_append_foot _ rfl _ _ 93 rfl 5 i0 (.int .u8 0) 1 1 Try.underlying93 hi hz0 hz1 hz2 rfl (by decide) _ _ _ rfl (hg.own.alloc _) ⟨wr.heap.size, 0, none⟩ 1 1 [.int .u8 m] rfl rfl (one_c1 _ _ _) (one_c2 _ _) ?c3 ?c4 ?_)
      case c3 => simp; unfold maxLen; omega
      case c4 => simp; omega
      intro v' w' ho hgr ha
      have hG : Grew w w' v v' (xs ++ vb n) := by
        have := hg.push (ns := [(m : Int)]) _ (by simpa using ho) hgr ha
        rw [List.append_assoc, ← vb_small hlt, hys.out] at this
        exact this
      clear ho hgr ha
      go_wp2
      go_ret
      exact ⟨_, rfl, hG⟩
    · go_wp2_with (at_builtin; refine wpList_append_foot _ rfl _ _ 93 rfl 5 i0 (.int .u8 0) 1 1 Try.underlying93 hi hz0 hz1 hz2 rfl (by decide) _ _ _ rfl (hg.own.alloc _) ⟨wr.heap.size, 0, none⟩ 1 1 [.int .u8 ((m : Int) % 128 + 128)] rfl rfl (one_c1 _ _ _) (one_c2 _ _) ?d3 ?d4 ?_)
      case d3 => simp; unfold maxLen; omega
      case d4 => simp; omega
      intro v' w' ho hgr ha
      have hG : Grew w w' v v' (xs ++ (ys ++ [((m : Int) % 128 + 128)])) := by
        have := hg.push (ns := [((m : Int) % 128 + 128)]) _ (by simpa using ho) hgr ha
        rw [List.append_assoc] at this
        exact this
      have hH : Hid ((ys ++ [((m : Int) % 128 + 128)]) ++ vb (m / 128) = vb n) := by
        show _ = _
        rw [← hys.out, vb_big (x := m) (by omega)]
        simp
      clear ho hgr ha hg hys
      go_wp2
      go_roundw
      case rel => exact ⟨m / 128, _, by go_num, by omega, hH, hG⟩
      case measure => simp [intOf]; omega

end Go.Proofs.Ythdpgachdegcgaa
