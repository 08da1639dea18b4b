/-
  What each access of a word does.
-/
import Derived.Test.YtpchnpdolhogdaaWdMem
namespace Go.Proofs.Ytpchnpdolhogdaa
open Go.RowKit
set_option linter.unusedVariables false
set_option maxRecDepth 8192

/-- what an access leaves and tells -/
def AW (w : World) (b : Nat) (d : Wd) (a : Ac) (e : Ending) (w' : World) : Prop :=
  ∃ v, e = .returned (.tuple #[.int .i64 a.came, v]) ∧ NX w' v a.pc ∧ IsW w' b (d.put a) ∧ FrW b w w'

/-- the closure is made -/
theorem made (w : World) (x y z : Int) :
    Calls Try.prog 31 #[.int .i64 x, .int .i64 y, .int .i64 z] w fun e w' => ∃ v, e = .returned v ∧ CX w' v x y z ∧ Fr (fun _ => False) w w' ∧ ∃ f c, v = .func (.func f) #[] c := by
  go_enter Try.func31, Try.ntmps31
  go_wp2
  go_ret
  have h1 : Bx (w.alloc (.cells #[.int .i64 x] 3)) w.heap.size x := blk_new w _
  have h2 : Bx ((w.alloc (.cells #[.int .i64 x] 3)).alloc (.cells #[.int .i64 y] 3)) (w.heap.size + 1) y := by
    have := blk_new (w.alloc (.cells #[.int .i64 x] 3)) (.cells #[.int .i64 y] 3)
    rw [World.size_alloc] at this
    exact this
  have h3 : Bx (((w.alloc (.cells #[.int .i64 x] 3)).alloc (.cells #[.int .i64 y] 3)).alloc (.cells #[.int .i64 z] 3)) (w.heap.size + 1 + 1) z := by
    have := blk_new ((w.alloc (.cells #[.int .i64 x] 3)).alloc (.cells #[.int .i64 y] 3)) (.cells #[.int .i64 z] 3)
    rw [World.size_alloc, World.size_alloc] at this
    exact this
  exact ⟨_, rfl, ⟨_, _, _, rfl, blk_alloc (blk_alloc h1), blk_alloc h2, h3⟩, (((Fr.refl _ w).alloc _).alloc _).alloc _, _, _, rfl⟩

set_option maxHeartbeats 400000 in
theorem a1 {w : World} {b : Nat} {d : Wd} (h : IsW w b d) :
    Calls Try.prog 25 #[.pointer (some ⟨b, 0, none⟩)] w (AW w b d (acc d.now d.held 1)) := by
  have c0 := h.c0
  obtain ⟨n, hn⟩ : ∃ n, d.now = n := ⟨_, rfl⟩
  have HN := hide hn
  rw [hn] at c0 ⊢
  clear hn
  simp only [acc]
  by_cases h0 : n = 0
  · subst h0
    rw [if_pos rfl]
    go_enter Try.func25, Try.ntmps25
    go_wp2_with (go_at_call 31; refine (made _ _ _ _).mono ?_; rintro e w1 ⟨v, rfl, hv, hF, f, c, rfl⟩)
    go_ret2
    exact ⟨_, rfl, .inl ⟨rfl, hv⟩, by have := h.up hF; unfold Wd.put; rw [← unhide HN]; exact this, hF.mono (fun _ _ h => h.elim)⟩
  · rw [if_neg h0]
    by_cases h2 : n = 2
    · subst h2
      rw [if_pos rfl]
      go_enter Try.func25, Try.ntmps25
      go_wp2_with (go_at_call 31; refine (made _ _ _ _).mono ?_; rintro e w1 ⟨v, rfl, hv, hF, f, c, rfl⟩)
      go_ret2
      exact ⟨_, rfl, .inr (.inl ⟨rfl, hv⟩), by have := h.up hF; unfold Wd.put; rw [← unhide HN]; exact this, hF.mono (fun _ _ h => h.elim)⟩
    · rw [if_neg h2]
      have e0 : (n == 0) = false := by simpa using h0
      have e2 : (n == 2) = false := by simpa using h2
      clear h0 h2
      go_enter Try.func25, Try.ntmps25
      go_wp2
      go_ret2
      exact ⟨_, rfl, NX.plain (p := 0) (by decide) (by decide), by unfold Wd.put; rw [← unhide HN]; exact h, Fr.refl _ w⟩

/-- a wake's second access -/
theorem a23 {w : World} {b : Nat} {d : Wd} (h : IsW w b d) {x y z : Nat} {A C T : Int} (hx : Bx w x A) (hy : Bx w y C) (hz : Bx w z T) :
    Calls Try.prog 34 #[.pointer (some ⟨b, 0, none⟩), .pointer (some ⟨x, 0, none⟩), .pointer (some ⟨y, 0, none⟩), .pointer (some ⟨z, 0, none⟩)] w
      (AW w b d (if d.now = A then ⟨T, C, d.held, 0⟩ else ⟨-1, d.now, d.held, 1⟩)) := by
  have cx := (cell_at hx 0).trans (show _ = some (Value.int .i64 A) from rfl)
  have cy := (cell_at hy 0).trans (show _ = some (Value.int .i64 C) from rfl)
  have cz := (cell_at hz 0).trans (show _ = some (Value.int .i64 T) from rfl)
  by_cases hA : d.now = A
  · rw [if_pos hA]
    have HC := hide (change_yes h C hA)
    have HZ := hide (fun (w' : World) (hf : FrW b w w') => (cell_at (hf.blk hz (h.nb ⟨_, hz⟩)) 0).trans (show _ = some (Value.int .i64 T) from rfl))
    clear hA
    go_enter Try.func34, Try.ntmps34
    go_wp2_with (go_at_call 32; refine (unhide HC).mono ?_; rintro e w1 ⟨rfl, h1, hF⟩; have cz1 := unhide HZ w1 hF)
    go_ret2
    exact ⟨_, rfl, NX.plain (p := 0) (by decide) (by decide), h1, hF⟩
  · rw [if_neg hA]
    have HC := hide (change_no h A C hA)
    clear hA
    go_enter Try.func34, Try.ntmps34
    go_wp2_with (go_at_call 32; refine (unhide HC).mono ?_; rintro e w1 ⟨rfl, rfl⟩)
    go_ret2
    exact ⟨_, rfl, NX.plain (p := 1) (by decide) (by decide), h, Fr.refl _ w⟩

theorem a4 {w : World} {b : Nat} {d : Wd} (h : IsW w b d) :
    Calls Try.prog 26 #[.pointer (some ⟨b, 0, none⟩)] w (AW w b d (acc d.now d.held 4)) := by
  simp only [acc]
  by_cases hA : d.now = 1
  · rw [if_pos hA]
    have HC := hide (change_yes h 2 hA)
    clear hA
    go_enter Try.func26, Try.ntmps26
    go_wp2_with (go_at_call 32; refine (unhide HC).mono ?_; rintro e w1 ⟨rfl, h1, hF⟩; have f1 := h1.free 1; have c1 := h1.c1)
    go_ret2
    exact ⟨_, rfl, NX.plain (p := 0) (by decide) (by decide), h1.sheld true, hF.setAt b 1 _ (.inr rfl)⟩
  · rw [if_neg hA]
    have HC := hide (change_no h 1 2 hA)
    clear hA
    go_enter Try.func26, Try.ntmps26
    go_wp2_with (go_at_call 32; refine (unhide HC).mono ?_; rintro e w1 ⟨rfl, rfl⟩)
    go_ret2
    exact ⟨_, rfl, NX.plain (p := 0) (by decide) (by decide), h, Fr.refl _ w⟩

theorem a5 {w : World} {b : Nat} {d : Wd} (h : IsW w b d) :
    Calls Try.prog 27 #[.pointer (some ⟨b, 0, none⟩)] w (AW w b d (acc d.now d.held 5)) := by
  simp only [acc]
  by_cases hA : d.now = 2
  · rw [if_pos hA]
    have HC := hide (change_yes h 0 hA)
    clear hA
    go_enter Try.func27, Try.ntmps27
    go_wp2_with (go_at_call 32; refine (unhide HC).mono ?_; rintro e w1 ⟨rfl, h1, hF⟩; have f1 := h1.free 1; have c1 := h1.c1)
    go_ret2
    exact ⟨_, rfl, NX.plain (p := 0) (by decide) (by decide), h1.sheld false, hF.setAt b 1 _ (.inr rfl)⟩
  · rw [if_neg hA]
    have HC := hide (change_no h 2 0 hA)
    clear hA
    go_enter Try.func27, Try.ntmps27
    go_wp2_with (go_at_call 32; refine (unhide HC).mono ?_; rintro e w1 ⟨rfl, rfl⟩)
    go_ret2
    exact ⟨_, rfl, NX.plain (p := 6) (by decide) (by decide), h, Fr.refl _ w⟩

theorem a6 {w : World} {b : Nat} {d : Wd} (h : IsW w b d) :
    Calls Try.prog 33 #[.pointer (some ⟨b, 0, none⟩)] w (AW w b d (acc d.now d.held 6)) := by
  simp only [acc]
  by_cases hA : d.now = 3
  · rw [if_pos hA]
    have HC := hide (change_yes h 2 hA)
    clear hA
    go_enter Try.func33, Try.ntmps33
    go_wp2_with (go_at_call 32; refine (unhide HC).mono ?_; rintro e w1 ⟨rfl, h1, hF⟩)
    go_ret2
    exact ⟨_, rfl, NX.plain (p := 0) (by decide) (by decide), h1, hF⟩
  · rw [if_neg hA]
    have HC := hide (change_no h 3 2 hA)
    clear hA
    go_enter Try.func33, Try.ntmps33
    go_wp2_with (go_at_call 32; refine (unhide HC).mono ?_; rintro e w1 ⟨rfl, rfl⟩)
    go_ret2
    exact ⟨_, rfl, NX.plain (p := 0) (by decide) (by decide), h, Fr.refl _ w⟩

theorem a8 {w : World} {b : Nat} {d : Wd} (h : IsW w b d) :
    Calls Try.prog 29 #[.pointer (some ⟨b, 0, none⟩)] w (AW w b d (acc d.now d.held 8)) := by
  simp only [acc]
  have f0 := h.free 0
  have f1 := h.free 1
  have c0 := h.c0
  have c1 := h.c1
  go_enter Try.func29, Try.ntmps29
  go_wp2
  go_ret2
  exact ⟨_, rfl, NX.plain (p := 0) (by decide) (by decide), (h.sheld false).snow 4, ((Fr.refl (fun k => k = b) w).setAt b 1 _ (.inr rfl)).setAt b 0 _ (.inr rfl)⟩

set_option maxHeartbeats 1000000 in
theorem a7 {w : World} {b : Nat} {d : Wd} (h : IsW w b d) :
    Calls Try.prog 28 #[.pointer (some ⟨b, 0, none⟩)] w (AW w b d (acc d.now d.held 7)) := by
  simp only [acc]
  have f1 := h.free 1
  have c1 := h.c1
  have hs := h.sheld false
  have hf : FrW b w (w.setCell ⟨b, 1, none⟩ (.bool false)) := Fr.set1 w b 1 _
  by_cases h2 : d.now = 2
  · rw [if_pos h2]
    have HC := hide (change_yes hs 1 (x := 2) h2)
    clear h2
    go_enter Try.func28, Try.ntmps28
    go_wp2_with (go_at_call 32; refine (unhide HC).mono ?_; rintro e w1 ⟨rfl, h1, hF⟩)
    go_ret2
    exact ⟨_, rfl, NX.plain (p := 0) (by decide) (by decide), h1, hf.trans hF (fun _ _ h => h) (fun _ _ h => h)⟩
  · rw [if_neg h2]
    have HC := hide (change_no hs 2 1 h2)
    by_cases h3 : d.now = 3
    · rw [if_pos h3]
      have HD := hide (change_yes hs 1 (x := 3) h3)
      clear h2 h3
      go_enter Try.func28, Try.ntmps28
      go_wp2_with fail
      refine (unhide HC).mono ?_
      rintro e w1 ⟨rfl, rfl⟩
      go_wp2_with fail
      refine (unhide HD).mono ?_
      rintro e w1 ⟨rfl, h1, hF⟩
      go_wp2
      go_ret2
      exact ⟨_, rfl, NX.plain (p := 0) (by decide) (by decide), h1, hf.trans hF (fun _ _ h => h) (fun _ _ h => h)⟩
    · rw [if_neg h3]
      have HD := hide (change_no hs 3 1 h3)
      clear h2 h3
      go_enter Try.func28, Try.ntmps28
      go_wp2_with fail
      refine (unhide HC).mono ?_
      rintro e w1 ⟨rfl, rfl⟩
      go_wp2_with fail
      refine (unhide HD).mono ?_
      rintro e w1 ⟨rfl, rfl⟩
      go_wp2
      go_ret2
      exact ⟨_, rfl, NX.plain (p := 0) (by decide) (by decide), hs, hf⟩

/-- whatever is under way: the next access -/
theorem acc_calls {w : World} {b : Nat} {d : Wd} (h : IsW w b d) {v : Value} {p : Nat} (hv : NX w v p) (hp : 0 < p) (h8 : p ≤ 8) :
    ∃ f c, v = .func (.func f) #[] c ∧ Calls Try.prog f (#[.pointer (some ⟨b, 0, none⟩)] ++ c) w (AW w b d (acc d.now d.held p)) ∧
      ∀ u : World, (callFunc f (#[.pointer (some ⟨b, 0, none⟩)] ++ c)).run Try.prog u = .ok (.enter f (#[.pointer (some ⟨b, 0, none⟩)] ++ c)) u := by
  rcases hv with ⟨rfl, x, y, z, rfl, hx, hy, hz⟩ | ⟨rfl, x, y, z, rfl, hx, hy, hz⟩ | ⟨h2, h3, rfl⟩
  · exact ⟨_, _, rfl, a23 h hx hy hz, fun u => by kernel_rfl⟩
  · exact ⟨_, _, rfl, a23 h hx hy hz, fun u => by kernel_rfl⟩
  · have : p = 1 ∨ p = 4 ∨ p = 5 ∨ p = 6 ∨ p = 7 ∨ p = 8 := by omega
    rcases this with rfl | rfl | rfl | rfl | rfl | rfl
    · exact ⟨_, _, rfl, a1 h, fun u => by kernel_rfl⟩
    · exact ⟨_, _, rfl, a4 h, fun u => by kernel_rfl⟩
    · exact ⟨_, _, rfl, a5 h, fun u => by kernel_rfl⟩
    · exact ⟨_, _, rfl, a6 h, fun u => by kernel_rfl⟩
    · exact ⟨_, _, rfl, a7 h, fun u => by kernel_rfl⟩
    · exact ⟨_, _, rfl, a8 h, fun u => by kernel_rfl⟩

end Go.Proofs.Ytpchnpdolhogdaa
