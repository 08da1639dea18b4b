/-
  The document's ring of numbers: its memory, and what its calls do to it.
-/
import Derived.Test.YtanmhjnelhjejaaRgSame
import Derived.Test.YtanmhjnelhjejaaOsl
import Derived.Maps.AppendAt
namespace Go.Proofs.Ytanmhjnelhjejaa
open Go.RowKit
set_option linter.unusedVariables false
set_option maxRecDepth 8192

/-- the document's ring at block b: its row lies behind it -/
def IsM (w : World) (b S : Nat) (l : List Int) : Prop := ∃ v, w.heap[b]? = some (.cells #[v, .int .i64 (S : Int)] 31 (0, 0)) ∧ OS w b 3 1 v l.length (rowV2 l) ∧ l.length ≤ S ∧ S ≤ 4096

/-- of the blocks that were there none but the document's ring and rows of numbers behind it has turned -/
abbrev FrM (b : Nat) (w w' : World) := Fr (fun k => k = b ∨ RowsOf w b 3 k) w w'

theorem IsM.same {w w' : World} {b S : Nat} {l : List Int} (h : IsM w b S l) (e : w'.heap = w.heap) : IsM w' b S l := by
  unfold IsM OS at *; rw [e]; exact h
theorem IsM.fr {P : Nat → Prop} {w w' : World} {b S : Nat} {l : List Int} (h : IsM w b S l) (hf : Fr P w w') (hP : ∀ k, b ≤ k → ¬ P k) : IsM w' b S l := by
  obtain ⟨v, h1, h2, h3⟩ := h
  exact ⟨v, hf.blk h1 (hP _ (Nat.le_refl _)), h2.fr hf (fun k hk => hP k hk.1), h3⟩
theorem Rg.same {w w' : World} {b g S : Nat} {l : List Int} (h : Rg w b g S l) (e : w'.heap = w.heap) : Rg w' b g S l := h.elim fun f h => ⟨f, h.same e⟩
theorem IsM.lt {w : World} {b S : Nat} {l : List Int} (h : IsM w b S l) : b < w.heap.size := by obtain ⟨v, h1, _⟩ := h; exact lt_of_blk h1

theorem not_row {w : World} {lo b : Nat} {cs : Array Value} {t e : TypeId} (h : w.heap[b]? = some (.cells cs t (0, 0))) (hne : t ≠ e) : ¬ RowsOf w lo e b := by
  rintro ⟨_, cs', h'⟩
  rw [h] at h'
  simp at h'
  exact hne h'.2

theorem IsM.fr' {P : Nat → Prop} {w w' : World} {b S : Nat} {l : List Int} (h : IsM w b S l) (hf : Fr P w w') (hb : ¬ P b) (hP : ∀ k, RowsOf w b 3 k → ¬ P k) : IsM w' b S l := by
  obtain ⟨v, h1, h2, h3⟩ := h
  exact ⟨v, hf.blk h1 hb, h2.fr hf hP, h3⟩

set_option maxHeartbeats 400000 in
theorem mnew_calls (n : Int) (w : World) :
    Calls Try.prog 11 #[.int .i64 n] w fun e w' => e = .returned (.pointer (some ⟨w.heap.size, 0, none⟩)) ∧ IsM w' w.heap.size (clamp n) [] ∧ Fr (fun _ => False) w w' := by
  have h1 := clamp_eq n
  have h2 := clamp_pos n
  have h3 := clamp_most n
  go_enter Try.func11, Try.ntmps11
  go_wp2
  all_goals
    go_ret
    exact ⟨by simp, ⟨.slice none 0 0, (blk_new w _).trans (by simp; omega), OS.nil _ _ _ _, by simp, h3⟩, (Fr.refl _ w).alloc _⟩

set_option maxHeartbeats 1000000 in
theorem mput_full {w : World} {b S : Nat} {l : List Int} (h : IsM w b S l) (hl : ¬ l.length < S) (x : Int) :
    Calls Try.prog 15 #[.pointer (some ⟨b, 0, none⟩), .int .i64 x] w fun e w' => e = .returned (.int .i64 7) ∧ IsM w' b S l ∧ FrM b w w' := by
  have h0 := h
  obtain ⟨v, h1, h2, h3, h4⟩ := h
  obtain ⟨a, cap, rfl, _⟩ := h2.cell
  have c0 := cell_at h1 0
  have c1 := cell_at h1 1
  simp at c0 c1
  have hI : (l.length : Int) ≥ (S : Int) := by omega
  go_enter Try.func15, Try.ntmps15
  go_wp2
  go_quiet (fail)
  go_wp2
  go_ret
  exact ⟨rfl, h0.same rfl, (Fr.refl _ w).drewN _⟩

set_option maxHeartbeats 1000000 in
theorem mpush_full {w : World} {b S : Nat} {l : List Int} (h : IsM w b S l) (hl : ¬ l.length < S) (x : Int) :
    Calls Try.prog 17 #[.pointer (some ⟨b, 0, none⟩), .int .i64 x] w fun e w' => e = .returned (.int .i64 7) ∧ IsM w' b S l ∧ FrM b w w' := by
  have h0 := h
  obtain ⟨v, h1, h2, h3, h4⟩ := h
  obtain ⟨a, cap, rfl, _⟩ := h2.cell
  have c0 := cell_at h1 0
  have c1 := cell_at h1 1
  simp at c0 c1
  have hI : (l.length : Int) ≥ (S : Int) := by omega
  go_enter Try.func17, Try.ntmps17
  go_wp2
  go_quiet (fail)
  go_wp2
  go_ret
  exact ⟨rfl, h0.same rfl, (Fr.refl _ w).drewN _⟩

/-- the row is stored back -/
theorem IsM.stored {w : World} {b S : Nat} {v v' : Value} {l : List Int} {W : World} {lo : Nat} (h1 : w.heap[b]? = some (.cells #[v, .int .i64 (S : Int)] 31 (0, 0))) (hO : OS w b 3 1 v' l.length (rowV2 l)) (h3 : l.length ≤ S) (h4 : S ≤ 4096) :
    IsM (w.setCell ⟨b, 0, none⟩ v') b S l := by
  refine ⟨v', by have := blk_setCell (i := 0) (u := v') h1; simpa using this, hO.fr (Fr.set1 w b 0 v') (fun k hk e => ?_), h3, h4⟩
  subst e
  exact not_row h1 (by decide) hk

set_option maxHeartbeats 1000000 in
theorem mput_ok {w : World} {b S : Nat} {l : List Int} (h : IsM w b S l) (hl : l.length < S) (x : Int) :
    Calls Try.prog 15 #[.pointer (some ⟨b, 0, none⟩), .int .i64 x] w fun e w' => e = .returned (.int .i64 0) ∧ IsM w' b S (l ++ [x]) ∧ FrM b w w' := by
  have hb := h.lt
  obtain ⟨v, h1, h2, h3, h4⟩ := h
  obtain ⟨a, cap, rfl, _⟩ := h2.cell
  have c0 := cell_at h1 0
  have c1 := cell_at h1 1
  simp at c0 c1
  have hI : (l.length : Int) < (S : Int) := by omega
  have hI2 : ((l.length : Int) ≥ (S : Int)) = False := by simp; omega
  go_enter Try.func15, Try.ntmps15
  go_wp2
  go_quiet (fail)
  go_wp2_with (at_builtin; refine wpList_append_os _ rfl _ _ 29 rfl 3 (.int .i64 0) 1 8 Try.underlying29 Try.infoInt rfl b _ l.length (rowV2 l) rfl (h2.fr (((Fr.refl (fun _ => False) w).drewN nq).alloc _) (fun _ _ h => h)) _ 1 [.int .i64 x] rfl (Src.ofSlice _ Try.underlying29 _ 1 1 _ rfl (cell_one_new _ _ _) (by simp [Value.oneCell'])) (by unfold maxLen; omega) (by omega) (by simp; omega) ?_; intro v' w1 hO1 hF1; obtain ⟨a1, cap1, rfl, _⟩ := hO1.cell; have hb1 := hF1.blk (blk_alloc (w := w.drewN nq) h1) (not_row (blk_alloc (w := w.drewN nq) h1) (by decide)); have d0 := cell_at hb1 0; have f0 := free_at hb1 0; simp at d0)
  go_ret
  refine ⟨rfl, IsM.stored (W := w) (lo := 0) hb1 (by simpa [rowV2] using hO1) (by simp; omega) h4, ?_⟩
  refine ((((Fr.refl (fun k => k = b ∨ RowsOf w b 3 k) w).drewN nq).alloc (.cells #[.int .i64 x] 3)).trans hF1 (fun _ _ h => h) (fun i hi hk => .inr ⟨hk.1, ?_⟩)).setAt b 0 _ (.inr (.inl rfl))
  obtain ⟨cs, hcs⟩ := hk.2
  exact ⟨cs, (Below.heap_alloc (w.drewN nq) _ i hi).symm.trans hcs⟩

set_option maxHeartbeats 1000000 in
theorem mpush_ok {w : World} {b S : Nat} {l : List Int} (h : IsM w b S l) (hl : l.length < S) (x : Int) :
    Calls Try.prog 17 #[.pointer (some ⟨b, 0, none⟩), .int .i64 x] w fun e w' => e = .returned (.int .i64 0) ∧ IsM w' b S (x :: l) ∧ FrM b w w' := by
  have hb := h.lt
  obtain ⟨v, h1, h2, h3, h4⟩ := h
  obtain ⟨a, cap, rfl, _⟩ := h2.cell
  have c0 := cell_at h1 0
  have c1 := cell_at h1 1
  simp at c0 c1
  have hI : (l.length : Int) < (S : Int) := by omega
  go_enter Try.func17, Try.ntmps17
  go_wp2
  go_quiet (fail)
  have hN : OS ((w.drewN nq).alloc (.cells #[.int .i64 x] 3)) b 3 1 (.slice (some ⟨w.heap.size, 0, none⟩) 1 1) 1 [.int .i64 x] := OS.new (w := w.drewN nq) (vs := [.int .i64 x]) rfl (by unfold maxLen; omega) (Nat.le_of_lt hb)
  have c0' : ((w.drewN nq).alloc (.cells #[.int .i64 x] 3)).cell? ⟨b, 0, none⟩ = some (.slice a l.length cap) := (cell_at (blk_alloc (w := w.drewN nq) h1) 0).trans rfl
  go_wp2_with (at_builtin; refine wpList_append_os _ rfl _ _ 29 rfl 3 (.int .i64 0) 1 8 Try.underlying29 Try.infoInt rfl b _ 1 [.int .i64 x] rfl hN _ l.length (rowV2 l) rfl ((h2.fr (((Fr.refl (fun _ => False) w).drewN nq).alloc _) (fun _ _ h => h)).src Try.underlying29 (by unfold rowV2; simp [Value.oneCell'])) (by unfold maxLen; omega) (by omega) (by simp; omega) ?_; intro v' w1 hO1 hF1; obtain ⟨a1, cap1, rfl, _⟩ := hO1.cell; have hb1 := hF1.blk (blk_alloc (w := w.drewN nq) h1) (not_row (blk_alloc (w := w.drewN nq) h1) (by decide)); have d0 := cell_at hb1 0; have f0 := free_at hb1 0; simp at d0)
  go_ret
  refine ⟨rfl, IsM.stored (W := w) (lo := 0) hb1 (by simpa [rowV2, Nat.add_comm] using hO1) (by simp; omega) h4, ?_⟩
  refine ((((Fr.refl (fun k => k = b ∨ RowsOf w b 3 k) w).drewN nq).alloc (.cells #[.int .i64 x] 3)).trans hF1 (fun _ _ h => h) (fun i hi hk => .inr ⟨hk.1, ?_⟩)).setAt b 0 _ (.inr (.inl rfl))
  obtain ⟨cs, hcs⟩ := hk.2
  exact ⟨cs, (Below.heap_alloc (w.drewN nq) _ i hi).symm.trans hcs⟩

set_option maxHeartbeats 1000000 in
theorem mtake_none {w : World} {b S : Nat} (h : IsM w b S []) :
    Calls Try.prog 19 #[.pointer (some ⟨b, 0, none⟩)] w fun e w' => e = .returned (.tuple #[.int .i64 0, .bool false]) ∧ IsM w' b S [] ∧ FrM b w w' := by
  have h0 := h
  obtain ⟨v, h1, h2, h3, h4⟩ := h
  obtain ⟨a, cap, rfl, _⟩ := h2.cell
  have c0 := cell_at h1 0
  simp at c0
  go_enter Try.func19, Try.ntmps19
  go_wp2
  go_ret2
  exact ⟨rfl, h0, Fr.refl _ _⟩

set_option maxHeartbeats 1000000 in
theorem mpop_none {w : World} {b S : Nat} (h : IsM w b S []) :
    Calls Try.prog 21 #[.pointer (some ⟨b, 0, none⟩)] w fun e w' => e = .returned (.tuple #[.int .i64 0, .bool false]) ∧ IsM w' b S [] ∧ FrM b w w' := by
  have h0 := h
  obtain ⟨v, h1, h2, h3, h4⟩ := h
  obtain ⟨a, cap, rfl, _⟩ := h2.cell
  have c0 := cell_at h1 0
  simp at c0
  go_enter Try.func21, Try.ntmps21
  go_wp2
  go_ret2
  exact ⟨rfl, h0, Fr.refl _ _⟩

set_option maxHeartbeats 1000000 in
theorem mtake_some {w : World} {b S : Nat} {x : Int} {l : List Int} (h : IsM w b S (x :: l)) :
    Calls Try.prog 19 #[.pointer (some ⟨b, 0, none⟩)] w fun e w' => e = .returned (.tuple #[.int .i64 x, .bool true]) ∧ IsM w' b S l ∧ FrM b w w' := by
  obtain ⟨v, h1, h2, h3, h4⟩ := h
  have hD := h2.drop 1 (by simp)
  obtain ⟨a, cap, rfl, hcap, hmax, hc⟩ := h2.cell
  simp only [List.length_cons] at hcap h1 h3 hc hD
  obtain ⟨g, off, rfl, hbg, hcells, hvs⟩ := hc (by omega)
  obtain ⟨a', cap', e1, hD⟩ := hD
  simp at e1
  obtain ⟨rfl, rfl⟩ := e1
  have e0 := hvs 0 (.int .i64 x) rfl
  have c0 := cell_at h1 0
  have f0 := free_at h1 0
  simp at c0 e0
  have hI : ((l.length + 1 : Nat) : Int) = (l.length : Int) + 1 := by omega
  go_enter Try.func19, Try.ntmps19
  go_wp2
  · go_ret2
    have hO := hD (some ⟨g, off, none⟩) (fun h => by omega) (fun _ => rfl)
    rw [show cap - 1 = 0 by omega] at hO
    refine ⟨rfl, IsM.stored (W := w) (lo := 0) h1 ?_ (by omega) h4, (Fr.refl _ w).setAt b 0 _ (.inr (.inl rfl))⟩
    simpa [rowV2] using hO
  · go_ret2
    have hO := hD (some ⟨g, off + 1 * 1, none⟩) (fun h => ⟨g, off, rfl, rfl⟩) (fun h => by omega)
    refine ⟨rfl, IsM.stored (W := w) (lo := 0) h1 ?_ (by omega) h4, (Fr.refl _ w).setAt b 0 _ (.inr (.inl rfl))⟩
    simpa [rowV2] using hO

set_option maxHeartbeats 1000000 in
theorem mpop_some {w : World} {b S : Nat} {x : Int} {l : List Int} (h : IsM w b S (l ++ [x])) :
    Calls Try.prog 21 #[.pointer (some ⟨b, 0, none⟩)] w fun e w' => e = .returned (.tuple #[.int .i64 x, .bool true]) ∧ IsM w' b S l ∧ FrM b w w' := by
  obtain ⟨v, h1, h2, h3, h4⟩ := h
  have hD := h2.take l.length (by simp)
  obtain ⟨a, cap, rfl, hcap, hmax, hc⟩ := h2.cell
  simp only [List.length_append, List.length_singleton] at hcap h1 h3 hc hD
  obtain ⟨g, off, rfl, hbg, hcells, hvs⟩ := hc (by omega)
  obtain ⟨a', cap', e1, hD⟩ := hD
  simp at e1
  obtain ⟨rfl, rfl⟩ := e1
  have e0 := hvs l.length (.int .i64 x) (by simp [rowV2])
  have c0 := cell_at h1 0
  have f0 := free_at h1 0
  simp at c0
  have hI : ((l.length + 1 : Nat) : Int) = (l.length : Int) + 1 := by omega
  go_enter Try.func21, Try.ntmps21
  go_wp2
  all_goals
    go_ret2
    refine ⟨rfl, IsM.stored (W := w) (lo := 0) h1 ?_ (by omega) h4, (Fr.refl _ w).setAt b 0 _ (.inr (.inl rfl))⟩
    have e : (rowV2 (l ++ [x])).take (l.length * 1) = rowV2 l := by simp [rowV2]
    rw [e] at hD
    simpa using hD

theorem IsM.sl {w : World} {b S : Nat} {l : List Int} (h : IsM w b S l) : ∃ v, w.heap[b]? = some (.cells #[v, .int .i64 (S : Int)] 31 (0, 0)) ∧ Sl w v l ∧ ∃ a c, v = .slice a l.length c := by
  obtain ⟨v, h1, h2, h3, h4⟩ := h
  obtain ⟨a, cap, rfl, hcap, hmax, hc⟩ := h2.cell
  refine ⟨_, h1, ⟨a, cap, rfl, fun i x hx => ?_⟩, _, _, rfl⟩
  have hil := (List.getElem?_eq_some_iff.1 hx).1
  obtain ⟨g, off, rfl, hbg, hcells, hvs⟩ := hc (by omega)
  exact ⟨g, off, rfl, hvs i _ (by unfold rowV2; rw [List.getElem?_map, hx]; rfl)⟩

set_option maxHeartbeats 1000000 in
theorem mat_none {w : World} {b S : Nat} {l : List Int} (h : IsM w b S l) (i : Int) (hi : i < 0 ∨ i ≥ l.length) :
    Calls Try.prog 24 #[.pointer (some ⟨b, 0, none⟩), .int .i64 i] w fun e w' => e = .returned (.tuple #[.int .i64 0, .bool false]) ∧ w = w' := by
  obtain ⟨v, h1, _, a, c, rfl⟩ := h.sl
  have c0 := cell_at h1 0
  simp at c0
  rcases Int.lt_or_le i 0 with hi0 | hi0
  · go_enter Try.func24, Try.ntmps24
    go_wp2
    go_ret2
    exact ⟨rfl, rfl⟩
  · have hi1 : i ≥ l.length := by omega
    clear hi
    go_enter Try.func24, Try.ntmps24
    go_wp2
    go_ret2
    exact ⟨rfl, rfl⟩

set_option maxHeartbeats 1000000 in
theorem mat_some {w : World} {b S : Nat} {l : List Int} (h : IsM w b S l) (i : Nat) (x : Int) (hx : l[i]? = some x) :
    Calls Try.prog 24 #[.pointer (some ⟨b, 0, none⟩), .int .i64 (i : Int)] w fun e w' => e = .returned (.tuple #[.int .i64 x, .bool true]) ∧ w = w' := by
  obtain ⟨v, h1, ⟨a, c, rfl, hs⟩, _⟩ := h.sl
  obtain ⟨g, off, rfl, hc⟩ := hs i x hx
  have c0 := cell_at h1 0
  simp at c0
  have hil := (List.getElem?_eq_some_iff.1 hx).1
  have hI2 : (i : Int) < (l.length : Int) := by omega
  go_enter Try.func24, Try.ntmps24
  go_wp2
  go_ret2
  exact ⟨rfl, rfl⟩

end Go.Proofs.Ytanmhjnelhjejaa
