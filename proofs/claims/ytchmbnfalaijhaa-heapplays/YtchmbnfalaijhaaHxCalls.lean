/-
  The document's heap: Cancel, Next and Pop.
-/
import Derived.Test.YtchmbnfalaijhaaHxCut
namespace Go.Proofs.Ytchmbnfalaijhaa
open Go.RowKit
set_option linter.unusedVariables false
set_option maxRecDepth 8192

theorem frm_up {lo : Nat} {w w1 w2 : World} (hF : Fr (fun _ => False) w w1) (hF2 : FrM lo w1 w2) : FrM lo w w2 :=
  hF.trans hF2 (fun _ _ h => h.elim) (fun k hk ⟨h1, h2⟩ => ⟨h1, by
    rcases h2 with ⟨cs, h2⟩ | ⟨cs, h2⟩
    · rw [hF.block k hk (fun h => h)] at h2; exact .inl ⟨cs, h2⟩
    · rw [hF.block k hk (fun h => h)] at h2; exact .inr ⟨cs, h2⟩⟩)

set_option maxHeartbeats 8000000 in
theorem mcancel_calls {w : World} {lo b n : Nat} {M : List (En Int)} (h : IsM w lo b n M) (hm : M.length ≤ 4194304) (hp : M.Pairwise (fun a b => a.k < b.k)) (q : Int) :
    Calls Try.prog 28 #[.pointer (some ⟨b, 0, none⟩), .int .i64 q] w fun r w' => r = .returned (.bool (hasK M q)) ∧ IsM w' lo b n (del M q) ∧ FrM lo w w' := by
  have HI := hide h
  obtain ⟨hlo, v, vs, h1, h2, h3, h4⟩ := h
  obtain ⟨a, c, rfl, hat⟩ := owns_at h2 h3
  have HAT := hide hat
  have HB := hide h1
  clear hat h1 h2 h3 h4
  go_enter Try.func28, Try.ntmps28
  go_wp2
  go_loopw [5] (fun j wr => ∃ (k : Nat), j = .int .i64 k ∧ k ≤ M.length ∧ (∀ (i : Nat) (x : En Int), i < k → M[i]? = some x → x.k ≠ q) ∧ Fr (fun _ => False) w wr) (fun j _ => M.length - (intOf j).toNat)
  case atStart => exact ⟨0, rfl, by omega, fun i x hi => by omega, Fr.refl _ _⟩
  case round =>
    obtain ⟨k, rfl, hk, hall, hF⟩ := hrel
    have hBr := hF.blk (unhide HB) (fun h => h)
    have c0 := cell_at hBr 0
    simp at c0
    by_cases hlt : k < M.length
    · have hlt' : (k : Int) < (M.length : Int) := by omega
      obtain ⟨x, hx⟩ := get_some hlt
      obtain ⟨g, rfl, _, hgl, _, x2, _⟩ := unhide HAT k x hx
      have y2 : wr.cell? ⟨g, k * 3 + 1, none⟩ = some (.int .i64 x.k) := cell_fr hF (fun h => h) x2
      clear x2
      by_cases hxq : x.k = q
      · have HC := hide (mcut_calls ((unhide HI).up hF) hm hp hx)
        have hh : hasK M q = true := (hasK_iff M q).2 ⟨x, List.mem_of_getElem? hx, hxq⟩
        rw [hxq] at HC
        clear hall
        go_wp2_with fail
        refine (unhide HC).mono ?_
        rintro e' w2 ⟨rfl, hM2, hF2, _⟩
        go_wp2
        go_ret
        exact ⟨by rw [hh]; rfl, hM2, frm_up hF (((unhide HI).up hF).frb hF2)⟩
      · have hst : ∀ (i : Nat) (y : En Int), i < k + 1 → M[i]? = some y → y.k ≠ q := fun i y hi hy => by
          by_cases e : i = k
          · subst e; rw [hx] at hy; cases hy; exact hxq
          · exact hall i y (by omega) hy
        clear hall
        go_wp2
        exact ⟨⟨k + 1, by go_num, by omega, hst, hF⟩, by simp [intOf]; omega⟩
    · have hlt' : ¬ (k : Int) < (M.length : Int) := by omega
      obtain rfl : k = M.length := by omega
      have hh : hasK M q = false := by
        cases e : hasK M q
        · rfl
        · obtain ⟨x, hx, hk⟩ := (hasK_iff M q).1 e
          obtain ⟨j, hj⟩ := List.getElem?_of_mem hx
          exact absurd hk (hall j x (List.getElem?_eq_some_iff.1 hj).1 hj)
      clear hall
      go_wp2
      go_ret
      exact ⟨rfl, by rw [del_of_not hh]; exact (unhide HI).up hF, hF.mono (fun _ _ h => h.elim)⟩

set_option maxHeartbeats 4000000 in
theorem mnext_some {w : World} {lo b n : Nat} {M : List (En Int)} (h : IsM w lo b n M) (hm : M.length ≤ 4194304) (hp : M.Pairwise (fun a b => a.k < b.k)) (e : En Int) (he : Le M e) :
    Calls Try.prog 32 #[.pointer (some ⟨b, 0, none⟩)] w fun r w' => r = .returned (.tuple #[.int .i64 e.t, .bool true]) ∧ Fr (fun _ => False) w w' := by
  have HL := hide (mleast_calls h hm)
  obtain ⟨hlo, v, vs, h1, h2, h3, h4⟩ := h
  obtain ⟨a, c, rfl, hat⟩ := owns_at h2 h3
  go_enter Try.func32, Try.ntmps32
  go_wp2_with fail
  refine (unhide HL).mono ?_
  rintro e' w1 ⟨⟨at', rfl, hLm⟩, hF⟩
  obtain ⟨i, rfl, hi⟩ := hLm.le hp he
  obtain ⟨g, rfl, _, hgl, x1, _, _⟩ := hat i e hi
  have y1 : w1.cell? ⟨g, i * 3, none⟩ = some (.int .i64 e.t) := cell_fr hF (fun h => h) x1
  have hil := (List.getElem?_eq_some_iff.1 hi).1
  have hB := hF.blk h1 (fun h => h)
  have c0 := cell_at hB 0
  simp at c0
  have hi' : (i : Int) < (M.length : Int) := by omega
  have hneg : ¬ (i : Int) < 0 := by omega
  clear h1 h2 h3 h4 hat x1 hB
  go_wp2_with fail
  go_ret2
  exact ⟨rfl, hF⟩

set_option maxHeartbeats 4000000 in
theorem mnext_none {w : World} {lo b n : Nat} (h : IsM w lo b n []) :
    Calls Try.prog 32 #[.pointer (some ⟨b, 0, none⟩)] w fun r w' => r = .returned (.tuple #[.int .i64 0, .bool false]) ∧ Fr (fun _ => False) w w' := by
  have HL := hide (mleast_calls h (by simp))
  go_enter Try.func32, Try.ntmps32
  go_wp2_with fail
  refine (unhide HL).mono ?_
  rintro e' w1 ⟨⟨at', rfl, hLm⟩, hF⟩
  obtain rfl : at' = -1 := by
    rcases hLm with ⟨_, h⟩ | ⟨i, d, _, h, _⟩
    · exact h
    · simp at h
  have hneg : ((-1 : Int) < 0) := by omega
  go_wp2_with fail
  go_ret2
  exact ⟨rfl, hF⟩

set_option maxHeartbeats 4000000 in
theorem mpop_none {w : World} {lo b n : Nat} (h : IsM w lo b n []) (now : Int) :
    Calls Try.prog 30 #[.pointer (some ⟨b, 0, none⟩), .int .i64 now] w fun r w' => r = .returned (.tuple #[.int .i64 0, .int .i64 0, .bool false]) ∧ Fr (fun _ => False) w w' := by
  have HL := hide (mleast_calls h (by simp))
  go_enter Try.func30, Try.ntmps30
  go_wp2_with fail
  refine (unhide HL).mono ?_
  rintro e' w1 ⟨⟨at', rfl, hLm⟩, hF⟩
  obtain rfl : at' = -1 := by
    rcases hLm with ⟨_, h⟩ | ⟨i, d, _, h, _⟩
    · exact h
    · simp at h
  have hneg : ((-1 : Int) < 0) := by omega
  go_wp2_with fail
  go_ret3
  exact ⟨rfl, hF⟩

set_option maxHeartbeats 4000000 in
theorem mpop_no {w : World} {lo b n : Nat} {M : List (En Int)} (h : IsM w lo b n M) (hm : M.length ≤ 4194304) (hp : M.Pairwise (fun a b => a.k < b.k)) (e : En Int) (he : Le M e) (now : Int) (ht : now < e.t) :
    Calls Try.prog 30 #[.pointer (some ⟨b, 0, none⟩), .int .i64 now] w fun r w' => r = .returned (.tuple #[.int .i64 0, .int .i64 0, .bool false]) ∧ Fr (fun _ => False) w w' := by
  have HL := hide (mleast_calls h hm)
  obtain ⟨hlo, v, vs, h1, h2, h3, h4⟩ := h
  obtain ⟨a, c, rfl, hat⟩ := owns_at h2 h3
  go_enter Try.func30, Try.ntmps30
  go_wp2_with fail
  refine (unhide HL).mono ?_
  rintro e' w1 ⟨⟨at', rfl, hLm⟩, hF⟩
  obtain ⟨i, rfl, hi⟩ := hLm.le hp he
  obtain ⟨g, rfl, _, hgl, x1, _, _⟩ := hat i e hi
  have y1 : w1.cell? ⟨g, i * 3, none⟩ = some (.int .i64 e.t) := cell_fr hF (fun h => h) x1
  have hil := (List.getElem?_eq_some_iff.1 hi).1
  have hB := hF.blk h1 (fun h => h)
  have c0 := cell_at hB 0
  simp at c0
  have hi' : (i : Int) < (M.length : Int) := by omega
  have hneg : ¬ (i : Int) < 0 := by omega
  clear h1 h2 h3 h4 hat x1 hB
  go_wp2_with fail
  go_ret3
  exact ⟨rfl, hF⟩

set_option maxHeartbeats 8000000 in
theorem mpop_yes {w : World} {lo b n : Nat} {M : List (En Int)} (h : IsM w lo b n M) (hm : M.length ≤ 4194304) (hp : M.Pairwise (fun a b => a.k < b.k)) (e : En Int) (he : Le M e) (now : Int) (ht : e.t ≤ now) :
    Calls Try.prog 30 #[.pointer (some ⟨b, 0, none⟩), .int .i64 now] w fun r w' => r = .returned (.tuple #[.int .i64 e.x, .int .i64 e.t, .bool true]) ∧ IsM w' lo b n (del M e.k) ∧ FrM lo w w' := by
  have HL := hide (mleast_calls h hm)
  have HI := hide h
  obtain ⟨hlo, v, vs, h1, h2, h3, h4⟩ := h
  obtain ⟨a, c, rfl, hat⟩ := owns_at h2 h3
  have HB := h1
  have hbl := lt_of_blk h1
  clear HB
  go_enter Try.func30, Try.ntmps30
  go_wp2_with fail
  refine (unhide HL).mono ?_
  rintro e' w1 ⟨⟨at', rfl, hLm⟩, hF⟩
  obtain ⟨i, rfl, hi⟩ := hLm.le hp he
  obtain ⟨g, rfl, _, hgl, x1, x2, x3⟩ := hat i e hi
  have y1 : w1.cell? ⟨g, i * 3, none⟩ = some (.int .i64 e.t) := cell_fr hF (fun h => h) x1
  have y2 : w1.cell? ⟨g, i * 3 + 1, none⟩ = some (.int .i64 e.k) := cell_fr hF (fun h => h) x2
  have y3 : w1.cell? ⟨g, i * 3 + 2, none⟩ = some (.int .i64 e.x) := cell_fr hF (fun h => h) x3
  have hil := (List.getElem?_eq_some_iff.1 hi).1
  have hB := hF.blk h1 (fun h => h)
  have c0 := cell_at hB 0
  simp at c0
  have hi' : (i : Int) < (M.length : Int) := by omega
  have hneg : ¬ (i : Int) < 0 := by omega
  have hnow : ¬ e.t > now := by omega
  have hz := hF.size
  clear h1 h2 h3 h4 hat x1 x2 x3 hB
  go_wp2_with fail
  have HX := blk_new w1 (.cells #[.int .i64 e.t, .int .i64 e.k, .int .i64 e.x] 94)
  have hF2 : Fr (fun _ => False) w (w1.alloc (.cells #[.int .i64 e.t, .int .i64 e.k, .int .i64 e.x] 94)) := hF.alloc _
  refine (mcut_calls ((unhide HI).up hF2) hm hp hi).mono ?_
  rintro e' w2 ⟨rfl, hM2, hF3, _⟩
  have hX2 : w2.heap[w1.heap.size]? = some (.cells #[.int .i64 e.t, .int .i64 e.k, .int .i64 e.x] 94 (0, 0)) := hF3.blk HX (by omega)
  have d0 := cell_at hX2 0
  have d2 := cell_at hX2 2
  simp at d0 d2
  go_wp2_with fail
  go_quiet (fail)
  go_wp2
  go_ret3
  exact ⟨rfl, hM2.fr ((Fr.refl (fun _ => False) w2).drewN _) (fun _ _ _ h => h), (frm_up hF2 (((unhide HI).up hF2).frb hF3)).drewN _⟩

end Go.Proofs.Ytchmbnfalaijhaa
