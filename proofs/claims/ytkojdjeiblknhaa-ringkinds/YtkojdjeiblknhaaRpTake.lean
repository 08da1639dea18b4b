/-
  What At, Take and Pop of a ring of pairs do.
-/
import Derived.Test.YtkojdjeiblknhaaRpCalls
import Derived.Deep.MidRow
namespace Go.Proofs.Ytkojdjeiblknhaa.Rp
open Go.RowKit
set_option linter.unusedVariables false
set_option maxRecDepth 8192

/-- a pair in a block of its own -/
def PrAt (w : World) (b : Nat) (x y : Int) : Prop := w.heap[b]? = some (.cells #[.int .i64 x, .int .i64 y] 54 (0, 0))

theorem load_pr {w : World} {b : Nat} {x y : Int} (h : PrAt w b x y) :
    (loadVar 54 ⟨b, 0, none⟩).run Try.prog w = .ok (.agg #[.int .i64 x, .int .i64 y]) w := by
  refine run_loadVar_mid w b 0 54 [.int .i64 x, .int .i64 y] _ ?_ Try.underlying54 rfl (by kernel_rfl)
  intro j v hv
  match j, hv with
  | 0, hv => simpa using (cell_at h 0).trans hv
  | 1, hv => simpa using (cell_at h 1).trans hv

theorem results_pr2 {fn : Func} {p u : Tmp} (h : fn.results = #[.cell p 54, .tmp u]) (tmps : Array Value) (w : World) (b : Nat) (x y : Int) (hp : tmps.getD p undef = .pointer (some ⟨b, 0, none⟩))
    (hb : PrAt w b x y) : (results fn tmps).run Try.prog w = .ok (.tuple #[.agg #[.int .i64 x, .int .i64 y], tmps.getD u undef]) w := by
  rw [results_cell_tmp h, hp]
  have := load_pr hb
  simp only [asAddr, Sem.run_pure, Result.andThen_ok, this]

theorem PrAt.set {w : World} {b : Nat} {x y : Int} (h : PrAt w b x y) (x' y' : Int) : PrAt ((w.setCell ⟨b, 0, none⟩ (.int .i64 x')).setCell ⟨b, 1, none⟩ (.int .i64 y')) b x' y' := by
  have h1 := blk_setCell (i := 0) (u := .int .i64 x') h
  have h2 := blk_setCell (i := 1) (u := .int .i64 y') h1
  exact h2

set_option maxHeartbeats 1000000 in
theorem at_none {w : World} {b g S f : Nat} {l : List (Int × Int)} (h : IsR w b g S f l) (i : Int) (hi : i < 0 ∨ i ≥ l.length) :
    Calls Try.prog 53 #[.pointer (some ⟨b, 0, none⟩), .int .i64 i] w fun e w' => e = .returned (.tuple #[.agg #[.int .i64 0, .int .i64 0], .bool false]) ∧ Fr (fun _ => False) w w' := by
  rcases Int.lt_or_le i 0 with hi0 | hi0
  · go_enter Try.func53, Try.ntmps53
    go_wp2
    have q0 : PrAt (w.alloc (.cells #[.int .i64 0, .int .i64 0] 54)) w.heap.size 0 0 := blk_new w _
    exact bodyPost_ret (results_pr2 rfl _ _ _ 0 0 rfl (blk_alloc q0)) rfl ⟨rfl, ((Fr.refl _ w).alloc _).alloc _⟩
  · have hi1 : i ≥ l.length := by omega
    clear hi
    go_enter Try.func53, Try.ntmps53
    go_wp2_with (go_at_call 39; refine (len_calls (h.al _)).mono ?_; rintro e w' ⟨rfl, rfl⟩)
    have q0 : PrAt (w.alloc (.cells #[.int .i64 0, .int .i64 0] 54)) w.heap.size 0 0 := blk_new w _
    exact bodyPost_ret (results_pr2 rfl _ _ _ 0 0 rfl (blk_alloc q0)) rfl ⟨rfl, ((Fr.refl _ w).alloc _).alloc _⟩

set_option maxHeartbeats 2000000 in
theorem at_some {w : World} {b g S f : Nat} {l : List (Int × Int)} (h : IsR w b g S f l) (i : Nat) (x y : Int) (hx : l[i]? = some (x, y)) :
    Calls Try.prog 53 #[.pointer (some ⟨b, 0, none⟩), .int .i64 (i : Int)] w fun e w' => e = .returned (.tuple #[.agg #[.int .i64 x, .int .i64 y], .bool true]) ∧ Fr (fun _ => False) w w' := by
  have hlt := h.lt
  have ha := h.al (.cells #[.int .i64 0, .int .i64 0] 54)
  have hbx := blk_new w (.cells #[.int .i64 0, .int .i64 0] 54)
  have x0 := cell_at hbx 0
  have x1 := cell_at hbx 1
  have f0 := free_at hbx 0
  have f1 := free_at hbx 1
  have c0 := cell_at ha.blk 0
  have hil := (List.getElem?_eq_some_iff.1 hx).1
  have hlen := h.len
  have hm := Nat.mod_lt (f + i) (show 0 < S by omega)
  obtain ⟨g1, g2⟩ := ha.thing hx
  obtain ⟨j, hj⟩ : ∃ j, (f + i) % S = j := ⟨_, rfl⟩
  rw [hj] at hm g1 g2
  have HJ := hide hj
  clear hj hx
  have hmost := h.most
  have hI : (j : Int) < (S : Int) := by omega
  have hI2 : (i : Int) < (l.length : Int) := by omega
  have hFa : Fr (fun _ => False) w (w.alloc (.cells #[.int .i64 0, .int .i64 0] 54)) := (Fr.refl _ w).alloc _
  have HQ := hide (show w.heap.size ≤ w.heap.size from Nat.le_refl _)
  go_enter Try.func53, Try.ntmps53
  go_upto_region 1 with fail
  generalize w.alloc (.cells #[.int .i64 0, .int .i64 0] 54) = wa at *
  obtain ⟨q, hq⟩ : ∃ q, w.heap.size = q := ⟨_, rfl⟩
  rw [hq] at x0 x1 f0 f1 hbx hlt ⊢
  have HQ := hide hq
  clear hq
  simp at c0 x0 x1
  go_wp2_with (go_at_call 39; refine (len_calls ha).mono ?_; rintro e w' ⟨rfl, rfl⟩)
  go_region_with (go_at_call 50; refine (slot_at (ha.drewN _) i j (by omega) HJ).mono ?_; rintro e w' ⟨rfl, nq2, rfl⟩)
  all_goals
    go_wp2
    have q1 : PrAt (wa.drewN (1 + nq2)) q 0 0 := hbx
    refine bodyPost_ret (results_pr2 rfl _ _ _ x y rfl (q1.set x y)) rfl ⟨rfl, ?_⟩
    exact ((hFa.drewN _).setAt q 0 _ (.inl (by rw [HQ.out]; exact Nat.le_refl _))).setAt q 1 _ (.inl (by rw [HQ.out]; exact Nat.le_refl _))

set_option maxHeartbeats 400000 in
theorem slot_hd {w : World} {b g S f j : Nat} {n : Int} (hb : w.heap[b]? = some (.cells #[.slice (some ⟨g, 0, none⟩) S S, .int .i64 (f : Int), .int .i64 n] 79 (0, 0))) (h1 : f < S) (h2 : S ≤ 4096) (i : Nat) (hi : i ≤ 4096) (hj : Hid ((f + i) % S = j)) :
    Calls Try.prog 50 #[.pointer (some ⟨b, 0, none⟩), .int .i64 (i : Int)] w fun e w' => e = .returned (.int .i64 (j : Int)) ∧ ∃ nq, w' = w.drewN nq := by
  have c0 := cell_at hb 0
  have c1 := cell_at hb 1
  simp at c0 c1
  have hS : ((S : Int) == 0) = false := by simp; omega
  rw [← hj.out]
  go_enter Try.func50, Try.ntmps50
  go_wp2
  go_quiet (fail)
  go_wp2
  go_ret
  refine ⟨?_, _, rfl⟩
  congr 2

set_option maxHeartbeats 2000000 in
theorem wipe_calls {w : World} {b g S f : Nat} {l : List (Int × Int)} (h : IsR w b g S f l) (i j : Nat) (hi : i ≤ 4096) (hj : (f + i) % S = j) :
    Calls Try.prog 54 #[.pointer (some ⟨b, 0, none⟩), .int .i64 (i : Int)] w fun e w' => e = .returned (.tuple #[]) ∧ ∃ W1, Hid (w' = set2 W1 g j (0, 0)) ∧ Fr (fun _ => False) w W1 := by
  have hlt := h.lt
  have ha := h.al (.cells #[.int .i64 0, .int .i64 0] 54)
  have hbx := blk_new w (.cells #[.int .i64 0, .int .i64 0] 54)
  have x0 := cell_at hbx 0
  have x1 := cell_at hbx 1
  have c0 := cell_at ha.blk 0
  have hpos := h.pos
  have hm := Nat.mod_lt (f + i) (show 0 < S by omega)
  rw [hj] at hm
  obtain ⟨u, u', g1, g2, g3, g4⟩ := ha.slots _ hm
  have HJ := hide hj
  clear hj
  have hmost := h.most
  have hI : (j : Int) < (S : Int) := by omega
  have hFa : Fr (fun _ => False) w (w.alloc (.cells #[.int .i64 0, .int .i64 0] 54)) := (Fr.refl _ w).alloc _
  go_enter Try.func54, Try.ntmps54
  go_upto_region 1 with fail
  generalize w.alloc (.cells #[.int .i64 0, .int .i64 0] 54) = wa at *
  generalize w.heap.size = q at *
  simp at c0 x0 x1
  go_region_with (go_at_call 50; refine (slot_at (ha.drewN _) i j (by omega) HJ).mono ?_; rintro e w' ⟨rfl, nq2, rfl⟩)
  all_goals
    go_wp2
    go_end0
    exact ⟨rfl, wa.drewN (1 + nq2), hide rfl, hFa.drewN _⟩

end Go.Proofs.Ytkojdjeiblknhaa.Rp
