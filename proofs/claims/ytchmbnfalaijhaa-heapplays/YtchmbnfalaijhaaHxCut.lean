/-
  The document's heap: a thing is cut out.
-/
import Derived.Test.YtchmbnfalaijhaaHxPut
namespace Go.Proofs.Ytchmbnfalaijhaa
open Go.RowKit
set_option linter.unusedVariables false
set_option maxRecDepth 8192

theorem en_cells2 (w : World) (t k x : Int) (T : TypeId) : ∀ (j : Nat) (u : Value), [Value.int .i64 t, .int .i64 k, .int .i64 x][j]? = some u → (w.alloc (.cells #[.int .i64 t, .int .i64 k, .int .i64 x] T)).cell? ((⟨w.heap.size, 0, none⟩ : Addr).add j) = some u := by
  intro j u h
  have hb := blk_new w (.cells #[.int .i64 t, .int .i64 k, .int .i64 x] T)
  rw [Addr.add_lit]
  have h2 := cell_at hb (0 + j)
  rw [h2]
  simpa using h

theorem del_snoc {M : List (En Int)} {k : Nat} {x : En Int} (hx : M[k]? = some x) (q : Int) : del (M.take (k + 1)) q = if x.k = q then del (M.take k) q else del (M.take k) q ++ [x] := by
  unfold del
  rw [List.take_add_one, hx, List.filter_append]
  split
  · simp [*]
  · simp [*]

theorem at_key {M : List (En Int)} (hp : M.Pairwise (fun a b => a.k < b.k)) {i j : Nat} {x y : En Int} (hx : M[i]? = some x) (hy : M[j]? = some y) : x.k = y.k ↔ i = j := by
  obtain ⟨ha, rfl⟩ := List.getElem?_eq_some_iff.1 hx
  obtain ⟨hb, rfl⟩ := List.getElem?_eq_some_iff.1 hy
  constructor
  · intro h
    rcases Nat.lt_trichotomy i j with h1 | h1 | h1
    · have := List.pairwise_iff_getElem.1 hp i j ha hb h1; omega
    · exact h1
    · have := List.pairwise_iff_getElem.1 hp j i hb ha h1; omega
  · rintro rfl; rfl

/-- the list's own block of the heap at b is such a one -/
def RowAt (w : World) (b : Nat) (S : Nat → Prop) : Prop := ∀ v x, w.heap[b]? = some (.cells #[v, x] 49 (0, 0)) → ∀ k, v.ownBlock = some k → S k

theorem RowAt.of {w : World} {b : Nat} {S : Nat → Prop} {v x : Value} (h : w.heap[b]? = some (.cells #[v, x] 49 (0, 0))) (hS : ∀ k, v.ownBlock = some k → S k) : RowAt w b S := by
  intro v' x' h2 k hk
  rw [h] at h2
  simp at h2
  exact hS k (by rw [h2.1]; exact hk)

theorem IsM.fr2 {P : Nat → Prop} {w w' : World} {lo b n : Nat} {M : List (En Int)} (h : IsM w lo b n M) (hf : Fr P w w') (hb : ¬ P b) (hR : RowAt w b (fun k => ¬ P k)) : IsM w' lo b n M ∧ RowAt w' b (fun k => ¬ P k) ∧ RowAt w' b (fun k => k < w.heap.size) := by
  obtain ⟨h0, v, vs, h1, h2, h3, h4⟩ := h
  have hq := hf.blk h1 hb
  refine ⟨⟨h0, v, vs, hq, owns_fr h2 hf (hR _ _ h1), h3, h4⟩, RowAt.of hq (hR _ _ h1), RowAt.of hq (fun k hk => ?_)⟩
  obtain ⟨_, cs, h⟩ := owns_mk h2 k hk
  exact lt_of_blk h

theorem IsM.frb {w w' : World} {lo b n : Nat} {M : List (En Int)} (h : IsM w lo b n M) (hF : Fr (fun k => k = b) w w') : FrM lo w w' :=
  hF.mono (fun k _ hk => by
    obtain ⟨h0, v, vs, h1, _⟩ := h
    subst hk
    exact ⟨h0, .inr ⟨_, h1⟩⟩)

set_option maxHeartbeats 8000000 in
theorem mcut_calls {w : World} {lo b n : Nat} {M : List (En Int)} (h : IsM w lo b n M) (hm : M.length ≤ 4194304) (hp : M.Pairwise (fun a b => a.k < b.k)) {i : Nat} {e : En Int} (he : M[i]? = some e) :
    Calls Try.prog 54 #[.pointer (some ⟨b, 0, none⟩), .int .i64 (i : Int)] w fun r w' => r = .returned (.tuple #[]) ∧ IsM w' lo b n (del M e.k) ∧ Fr (fun k => k = b) w w' ∧ RowAt w' b (fun k => w.heap.size ≤ k) := by
  obtain ⟨hlo, v, vs, h1, h2, h3, h4⟩ := h
  obtain ⟨a, c, rfl, hat⟩ := owns_at h2 h3
  have HAT := hide hat
  have HB := hide h1
  have hbl := lt_of_blk h1
  have hP : ∀ k, k = b → lo ≤ k ∧ MK w k := fun k hk => by
    subst hk
    exact ⟨hlo, .inr ⟨_, h1⟩⟩
  have hi := (List.getElem?_eq_some_iff.1 he).1
  clear hat h1 h2 h3 h4
  obtain ⟨i0, hinf, hz0, hz1, hz2⟩ := info_parts infoTh
  have HI := hide hinf
  clear hinf
  go_enter Try.func54, Try.ntmps54
  go_wp2
  go_loopw [4, 5] (fun l j wr => ∃ (k : Nat) (vs' : List Value), j = .int .i64 k ∧ k ≤ M.length ∧ wr.ownsRow w.heap.size 94 3 l (del (M.take k) e.k).length vs' ∧ Says vs' (del (M.take k) e.k) ∧ vs'.length = (del (M.take k) e.k).length * 3 ∧ Fr (fun _ => False) w wr) (fun _ j _ => M.length - (intOf j).toNat)
  case atStart => exact ⟨0, [], rfl, by omega, ⟨rfl, .inl ⟨rfl, rfl⟩⟩, fun i e he => by simp [del] at he, rfl, Fr.refl _ _⟩
  case round =>
    obtain ⟨k, vs', rfl, hk, hO, hS, hL, hF⟩ := hrel
    have hBr := hF.blk (unhide HB) (fun h => h)
    have c0 := cell_at hBr 0
    have f0 := free_at hBr 0
    simp at c0
    by_cases hlt : k < M.length
    · have hlt' : (k : Int) < (M.length : Int) := by omega
      obtain ⟨x, hx⟩ := get_some hlt
      have hds := del_snoc hx e.k
      have hke := at_key hp hx he
      by_cases hki : k = i
      · subst hki
        rw [if_pos (hke.2 rfl)] at hds
        go_wp2
        refine ⟨⟨k + 1, vs', by go_num, by omega, by rw [hds]; exact hO, by rw [hds]; exact hS, by rw [hds]; exact hL, hF⟩, by simp [intOf]; omega⟩
      · have hki' : ¬ (k : Int) = (i : Int) := by omega
        rw [if_neg (fun h => hki (hke.1 h))] at hds
        obtain ⟨g, rfl, _, hgl, x1, x2, x3⟩ := unhide HAT k x hx
        have up : ∀ (j : Nat) (u : Value), w.cell? ⟨g, j, none⟩ = some u → wr.cell? ⟨g, j, none⟩ = some u := fun j u hu => cell_fr hF (fun h => h) hu
        have y1 := up _ _ x1
        have y2 := up _ _ x2
        have y3 := up _ _ x3
        clear x1 x2 x3
        have hdl : (del (M.take k) e.k).length ≤ k := by
          have h1 := List.length_filter_le (fun x => decide (x.k ≠ e.k)) (M.take k)
          have h2 := List.length_take_le k M
          unfold del
          omega
        have hsz := hF.size
        have hmk := owns_mk hO
        have HMK := hide hmk
        clear hmk
        have HOA := hide ((owns_zero3 hO).alloc (.cells #[.int .i64 x.t, .int .i64 x.k, .int .i64 x.x] 94))
        have HDS := hide hds
        clear hds
        obtain ⟨a', cap', rfl⟩ := slice_own (owns_zero3 hO)
        go_wp2_with (at_builtin; refine wpList_append_foot _ rfl _ _ 47 rfl 94 i0 (enV ⟨0, 0, 0⟩) 3 24 Try.underlying47 (unhide HI) hz0 hz1 hz2 rfl (by decide) _ _ _ rfl (unhide HOA) ⟨wr.heap.size, 0, none⟩ 1 1 [.int .i64 x.t, .int .i64 x.k, .int .i64 x.x] rfl rfl (en_cells2 wr _ _ _ _) (en_one _ _ _) (by unfold maxLen; omega) (by omega) ?_)
        intro v' w2 ho hgr ha
        obtain ⟨a2, cp2, rfl⟩ := slice_own ho
        go_wp2
        have hF2 : Fr (fun _ => False) w w2 := (hF.alloc _).grown hgr (fun k hk => .inl ((unhide HMK) k hk).1)
        have hln : (del (M.take k) e.k ++ [x]).length = (del (M.take k) e.k).length + 1 := by simp
        refine ⟨⟨k + 1, vs' ++ [.int .i64 x.t, .int .i64 x.k, .int .i64 x.x], by go_num, by omega, ?_, ?_, ?_, hF2⟩, by simp [intOf]; omega⟩
        · rw [unhide HDS, hln]
          refine owns_lo3 ho (fun q hq => ?_)
          rcases ha with e1 | e1
          · rw [e1] at hq
            exact ((unhide HMK) q hq).1
          · rw [e1] at hq
            injection hq with hq
            omega
        · rw [unhide HDS]
          exact hS.snoc hL x
        · rw [unhide HDS, hln]
          simp [hL]
          omega
    · have hlt' : ¬ (k : Int) < (M.length : Int) := by omega
      obtain rfl : k = M.length := by omega
      rw [List.take_length] at hO hS hL
      have hmk := owns_mk hO
      obtain ⟨a', cap', rfl⟩ := slice_own (owns_zero3 hO)
      have HMK := hide hmk
      clear hmk
      go_wp2
      go_end0
      have hmk := unhide HMK
      have hsz := hF.size
      have hT := blk_setCell (i := 0) (u := .slice a' (del M e.k).length cap') hBr
      refine ⟨rfl, ⟨hlo, _, vs', by simpa using hT, owns_lo3 (owns_fr (owns_zero3 hO) (Fr.set1 wr b 0 _) (fun q hq => by have := (hmk q hq).1; omega)) (fun q hq => by have := (hmk q hq).1; omega), hS, hL⟩, (hF.mono (T := fun k => k = b) (fun _ _ h => h.elim)).setAt b 0 _ (.inr rfl), RowAt.of (by simpa using hT) (fun q hq => (hmk q hq).1)⟩

end Go.Proofs.Ytchmbnfalaijhaa
