/-
  The document's heap: a thing is laid in.
-/
import Derived.Test.YtchmbnfalaijhaaHxRef
namespace Go.Proofs.Ytchmbnfalaijhaa
open Go.RowKit
set_option linter.unusedVariables false
set_option maxRecDepth 8192

theorem infoTh : (Try.prog.info? 94).map (fun i => (i.zero, i.size, i.bytes)) = some (some (enV ⟨0, 0, 0⟩), 3, 24) := by kernel_rfl

theorem owns_zero3 {w : World} {lo : Nat} {e : TypeId} {v : Value} {n : Nat} {vs : List Value} (h : w.ownsRow lo e 3 v n vs) : w.ownsRow 0 e 3 v n vs := by
  refine ⟨h.1, ?_⟩
  rcases h.2 with h | ⟨g, cap, cur, e1, _, rest⟩
  · exact .inl h
  · exact .inr ⟨g, cap, cur, e1, Nat.zero_le _, rest⟩

theorem owns_lo3 {w : World} {lo : Nat} {e : TypeId} {v : Value} {n : Nat} {vs : List Value} (h : w.ownsRow 0 e 3 v n vs) (hl : ∀ k, v.ownBlock = some k → lo ≤ k) : w.ownsRow lo e 3 v n vs := by
  refine ⟨h.1, ?_⟩
  rcases h.2 with h | ⟨g, cap, cur, rfl, _, rest⟩
  · exact .inl h
  · exact .inr ⟨g, cap, cur, rfl, hl g rfl, rest⟩

theorem owns_mk {w : World} {lo : Nat} {v : Value} {n : Nat} {vs : List Value} (h : w.ownsRow lo 94 3 v n vs) : ∀ k, v.ownBlock = some k → lo ≤ k ∧ ∃ cs, w.heap[k]? = some (.cells cs 94 (0, 0)) := by
  intro k hk
  rcases h.2 with ⟨rfl, _⟩ | ⟨g, cap, cur, rfl, hb, hg, _⟩
  · cases hk
  · cases hk
    exact ⟨hb, _, hg⟩

theorem th_ne {w : World} {b k : Nat} {cs cs' : Array Value} (h : w.heap[b]? = some (.cells cs 49 (0, 0))) (h2 : w.heap[k]? = some (.cells cs' 94 (0, 0))) : ¬ k = b := by
  intro e
  rw [e, h] at h2
  simp at h2

set_option maxHeartbeats 8000000 in
theorem mput_calls {w : World} {lo b n : Nat} {M : List (En Int)} (h : IsM w lo b n M) (hn : n < 4194304) (hm : M.length ≤ 4194304) (t x : Int) :
    Calls Try.prog 26 #[.pointer (some ⟨b, 0, none⟩), .int .i64 t, .int .i64 x] w fun e w' => e = .returned (.int .i64 ((n : Int) + 1)) ∧ IsM w' lo b (n + 1) (M ++ [⟨t, (n : Int) + 1, x⟩]) ∧ FrM lo w w' := by
  obtain ⟨hlo, v, vs, h1, h2, h3, h4⟩ := h
  have hmk := owns_mk h2
  have hP : ∀ k, (k = b ∨ v.ownBlock = some k) → lo ≤ k ∧ MK w k := fun k hk => by
    rcases hk with rfl | hk
    · exact ⟨hlo, .inr ⟨_, h1⟩⟩
    · exact ⟨(hmk k hk).1, .inl (hmk k hk).2⟩
  have hnb : ∀ k, v.ownBlock = some k → ¬ k = b := fun k hk => by
    obtain ⟨_, cs, hc⟩ := hmk k hk
    exact th_ne h1 hc
  obtain ⟨a', cap', rfl⟩ := slice_own (owns_zero3 h2)
  have c1 := cell_at h1 1
  have f1 := free_at h1 1
  simp at c1
  go_enter Try.func26, Try.ntmps26
  go_upto_region 2 with fail
  have hB1 := blk_setCell (i := 1) (u := .int .i64 ((n : Int) + 1)) h1
  have hF1 := Fr.set1 w b 1 (.int .i64 ((n : Int) + 1))
  have hbl := lt_of_blk h1
  have hown1 := owns_fr (owns_zero3 h2) hF1 (fun k hk => hnb k hk)
  have hbl1 : b < (w.setCell ⟨b, 1, none⟩ (.int .i64 ((n : Int) + 1))).heap.size := by simpa using hbl
  have hsz : w.heap.size = (w.setCell ⟨b, 1, none⟩ (.int .i64 ((n : Int) + 1))).heap.size := by simp
  generalize w.setCell ⟨b, 1, none⟩ (.int .i64 ((n : Int) + 1)) = wb at *
  have HSZ := hide hsz
  clear c1 f1 hsz
  have c0 := cell_at hB1 0
  have c1 := cell_at hB1 1
  have f0 := free_at hB1 0
  simp at c0 c1
  have hbl2 : b ≠ wb.heap.size := by omega
  have HO := hide (own_drew (hown1.alloc (.cells #[.int .i64 t, .int .i64 ((n : Int) + 1), .int .i64 x] 94)))
  have HB := hide (blk_alloc (u := .cells #[.int .i64 t, .int .i64 ((n : Int) + 1), .int .i64 x] 94) hB1)
  go_region_law (refine step_append_info rfl _ _ 47 rfl 94 (enV ⟨0, 0, 0⟩) 3 24 Try.underlying47 infoTh rfl (by decide) (.slice a' M.length cap') _ _ rfl (unhide HO) ⟨wb.heap.size, 0, none⟩ 1 1 [.int .i64 t, .int .i64 ((n : Int) + 1), .int .i64 x] rfl rfl (en_cells wb _ _ _ _) (en_one _ _ _) (by unfold maxLen; omega) (by omega) ?_; intro v' w2 ho hgr ha; obtain ⟨a2, cp2, rfl⟩ := slice_own ho; have HT := hide (hgr.block b (by simp; omega) (fun e => hnb _ e.symm rfl)); have HT2 := hide ((unhide HT).trans (unhide HB)); have t0 := cell_at (unhide HT2) 0; have t1 := cell_at (unhide HT2) 1; simp at t0 t1; have g0 := free_at (unhide HT2) 0)
  all_goals
    go_wp2_with fail
    try go_ret
    have hlen : (M ++ [(⟨t, (n : Int) + 1, x⟩ : En Int)]).length = M.length + 1 := by simp
    have hF2 : Fr (fun k => k = b ∨ (Value.slice a' M.length cap').ownBlock = some k) w w2 := (((hF1.mono (T := fun k => k = b ∨ (Value.slice a' M.length cap').ownBlock = some k) (fun _ _ h => .inl h)).alloc _).drew).grown hgr (fun k hk => .inr (.inr hk))
    have hF3 := hF2.setAt b 0 (.slice a2 (M.length + 1) cp2) (.inr (.inl rfl))
    have hT := blk_setCell (i := 0) (u := .slice a2 (M.length + 1) cp2) (unhide HT2)
    have hlo2 : ∀ k, (Value.slice a2 (M.length + 1) cp2).ownBlock = some k → lo ≤ k ∧ ¬ k = b := fun k hk => by
      rcases ha with e | e
      · rw [e] at hk
        exact ⟨(hmk k hk).1, hnb k hk⟩
      · rw [e] at hk
        injection hk with hk
        simp at hk
        exact ⟨by omega, by omega⟩
    refine ⟨rfl, ⟨hlo, _, _, by simpa using hT, ?_, h3.snoc h4 ⟨t, (n : Int) + 1, x⟩, by simp [h4]; omega⟩, hF3.mono (fun k _ hk => hP k hk)⟩
    rw [hlen]
    exact owns_lo3 (owns_fr ho (Fr.set1 w2 b 0 _) (fun k hk => (hlo2 k hk).2)) (fun k hk => (hlo2 k hk).1)

end Go.Proofs.Ytchmbnfalaijhaa
