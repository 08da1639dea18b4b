/-
  all: the list of what a ring of numbers gives.
-/
import Derived.Test.YtanmhjnelhjejaaRgAll
import Derived.Test.YtanmhjnelhjejaaFootIn
import Derived.Test.YtanmhjnelhjejaaRgArr
import Derived.RangeFuncBox
import Derived.Maps.AppendAt
namespace Go.Proofs.Ytanmhjnelhjejaa
open Go.RowKit Go.Shelf
attribute [local go_sem] Oper.semAt_some
set_option linter.unusedVariables false
set_option maxRecDepth 100000

def rowV2 (l : List Int) : List Value := l.map (Value.int .i64)

theorem itemsR_snd (l : List Int) : (itemsR l l.length).map (·.2) = l := by
  unfold itemsR
  rw [List.map_map]
  apply List.ext_getElem?
  intro i
  rw [List.getElem?_map]
  by_cases h : i < l.length
  · rw [List.getElem?_range h]; simp [List.getElem?_eq_getElem h]
  · rw [List.getElem?_eq_none (by simpa using h), List.getElem?_eq_none (by omega)]; rfl

theorem itemsR_last {l : List Int} {n : Nat} {pre : List (Nat × Int)} {x : Nat × Int} (h : pre ++ [x] <+: itemsR l n) : x.1 = pre.length := by
  obtain ⟨s, hs⟩ := h
  have e : (itemsR l n)[pre.length]? = some x := by rw [← hs]; simp
  unfold itemsR at e
  rw [List.getElem?_map] at e
  have hl : pre.length < n := by
    have := congrArg List.length hs
    simp [itemsR_len] at this; omega
  rw [List.getElem?_range hl] at e
  simp at e
  rw [← e]

set_option maxHeartbeats 4000000 in
theorem all_calls (p : Option Addr) (l : List Int) (w : World) (hl : l.length ≤ 4096)
    (hT : ∀ W, Below w.heap.size w W → Calls Try.prog 46 #[.pointer p] W fun e w' => e = .returned (.slice (some ⟨W.heap.size, 0, none⟩) l.length l.length) ∧ LB w' W.heap.size l.length l ∧ Fr (fun _ => False) W w') :
    Calls Try.prog 26 #[.pointer p] w fun e w' => ∃ v, e = .returned v ∧ w'.ownsRow w.heap.size 3 1 v l.length (rowV2 l) ∧ Fr (fun _ => False) w w' := by
  refine (callsIn_wide (n := 4)).1 ?_
  refine callsIn_of_wp_marks Try.func26 rfl trivial ?_ rfl
  simp only [Try.ntmps26, List.size_toArray, List.length_cons, List.length_nil, Nat.reduceAdd, Nat.reduceSub, Array.replicate_succ, Array.replicate_zero, List.push_toArray, List.append_toArray, List.nil_append, List.cons_append]
  have HT := hide hT
  clear hT
  gi_wp2_with (refine ⟨trivial, ?_⟩; gi_at_call 43; refine (callsIn_wide.2 (all_in _ _)).mono ?_; rintro e w' ⟨rfl, rfl⟩)
  have b0 := Boxed.new w 29 (.slice none 0 0)
  have b1 := Boxed.new (w.alloc (.cells #[.slice none 0 0] 29)) 29 (.slice none 0 0)
  have b2 := Boxed.new ((w.alloc (.cells #[.slice none 0 0] 29)).alloc (.cells #[.slice none 0 0] 29)) 24 (.pointer p)
  simp only [World.size_alloc] at b1 b2
  have hB0 : Below w.heap.size w (((w.alloc (.cells #[.slice none 0 0] 29)).alloc (.cells #[.slice none 0 0] 29)).alloc (.cells #[.pointer p] 24)) := (((Below.refl _ w).alloc (Nat.le_refl _) _).alloc (by simp) _).alloc (by simp; omega) _
  have q0 := (b0.alloc (.cells #[.slice none 0 0] 29)).alloc (.cells #[.pointer p] 24)
  have q1 := b1.alloc (.cells #[.pointer p] 24)
  have zz : (((w.alloc (.cells #[.slice none 0 0] 29)).alloc (.cells #[.slice none 0 0] 29)).alloc (.cells #[.pointer p] 24)).heap.size = w.heap.size + 3 := by simp
  generalize ((w.alloc (.cells #[.slice none 0 0] 29)).alloc (.cells #[.slice none 0 0] 29)).alloc (.cells #[.pointer p] 24) = w0 at *
  clear b0 b1
  refine wpIn_rangeFunc_ownG (α := Nat × Int) rfl (by omega) (gf := 55) (lb := #[.pointer (some ⟨w.heap.size + 1 + 1, 0, none⟩)]) rfl trivial (enters_of Try.func55 (by kernel_rfl) rfl)
    (all1_stops 3 (by omega) (w.heap.size + 1 + 1) p l w0 (KA (w.heap.size + 1)) (fun q W => q ≠ w.heap.size + 1 ∧ rowBlk W (w.heap.size + 1) ≠ some q) hl b2 ?hS0 ?hSK (fun W hW => unhide HT W (hB0.trans (hW.mono (by omega))))) KA.trans (KA.put (by omega)) (Below.refl _ _) (fun _ => rfl)
    (fun pre W => (∃ v, Boxed W (w.heap.size + 1) 29 v ∧ W.ownsRow w.heap.size 3 1 v pre.length (rowV2 (pre.map (·.2))) ∧ True) ∧ Boxed W w.heap.size 29 (.slice none 0 0) ∧ Below w.heap.size w W)
    (fun c pre W => ¬ pre <+: itemsR l l.length)
    (OwnFrom.and (Own.from (holdsRow_own w.heap.size (w.heap.size + 1) 29 3 1 (fun pre : List (Nat × Int) => pre.length) (fun pre => rowV2 (pre.map (·.2))) (fun pre v => True)) _) (OwnFrom.and (Own.from (boxed_own _ _ _) _) (ownFrom_below (Nat.le_refl _) (by omega))))
    (fun c => ownFrom_pure _ (fun pre => ¬ pre <+: itemsR l l.length))
    ⟨⟨_, q1, World.ownsRow_nil _ _ _ _, trivial⟩, q0, hB0⟩
    (fun x => { tmps := #[.pointer p, undef, .pointer (some ⟨w.heap.size, 0, none⟩), .pointer (some ⟨w.heap.size + 1, 0, none⟩), .int .i64 (x.1 : Int), .int .i64 x.2, .pointer p, .func (.func 55) #[] #[.pointer (some ⟨w.heap.size + 1 + 1, 0, none⟩)], .int .i64 (x.1 : Int), .int .i64 x.2, undef, undef, undef, undef, undef, undef, undef, undef, undef, undef, undef], defers := [] }) ?assign ?body ?done ?stop
  case hS0 =>
    intro W W' hW hF hlt
    have e1 : W'.heap[w.heap.size + 1]? = w0.heap[w.heap.size + 1]? := (hF.block _ (by have := hW.size; omega) (fun h => h)).trans (hW.block _ (by omega))
    refine ⟨by have := hW.size; omega, ?_⟩
    rw [rowBlk_same e1, rowBlk_boxed q1]
    simp [Value.ownBlock]
  case hSK =>
    rintro q W W' ⟨h1, h2⟩ ⟨cs, t, hq⟩ hK
    refine ⟨⟨h1, fun e => ?_⟩, hK.keep q cs t hq h1 h2⟩
    rcases hK.row with f | f
    · exact h2 (f ▸ e)
    · have := f q e
      have := lt_of_blk hq
      omega
  case assign =>
    intro l x W K hK
    dsimp only [itR]
    gi_wp2
    exact hK
  case body =>
    rintro lp pre x W ⟨⟨v, hv, hrow, _⟩, hr0, hB⟩ hlt
    have hc := hv.cell
    have hc0 := hr0.cell
    have hf0 := hr0.frozen
    have hz0 := hr0.lt
    by_cases hx : x.1 = pre.length
    · have hx' : ((x.1 : Int) != (pre.length : Int)) = false := by rw [hx]; simp
      have hsl : ∃ a c, v = .slice a pre.length c := by
        rcases hrow.2 with ⟨rfl, h0⟩ | ⟨g, cap, _, rfl, _⟩
        · exact ⟨none, 0, by rw [h0]⟩
        · exact ⟨_, _, rfl⟩
      obtain ⟨a0, c00, hv0⟩ := hsl
      subst hv0
      have hnb : (Value.slice a0 pre.length c00).ownBlock ≠ some (w.heap.size + 1) := (hv.not_row (by decide) hrow).symm
      gi_wp2_with (gi_at_builtin; refine wpListIn_append_foot _ rfl _ _ 29 rfl w.heap.size 3 (.int .i64 0) 1 8 Try.underlying29 Try.infoInt rfl (by decide) _ _ _ rfl (hrow.alloc _) ⟨W.heap.size, 0, none⟩ 1 1 [.int .i64 x.2] rfl rfl (cell_one_new _ _ _) (by simp [Value.oneCell']) (by unfold maxLen; omega) (by omega) (by have := hB.size; simp; omega) ?_; intro v' w1 hown' hgrow hft; obtain ⟨g', cap', rfl⟩ := ownsRow_succ hown'; obtain ⟨hv1, hv2, hr2, hk2, hb2⟩ := hv.appended (by decide) hrow hB.size (Nat.le_succ _) hown' hgrow; have hc1 := hv1.cell; have hf1 := hv1.frozen)
      have hr0' : Boxed w1 w.heap.size 29 (.slice none 0 0) := (hr0.alloc _).kept hgrow (hr0.not_row (by decide) hrow)
      exact ⟨hk2.from _, KA.append hv hnb hgrow hft, ⟨_, hv2, by simpa [rowV2] using hr2, trivial⟩, hr0'.other (by omega) _, hB.trans hb2⟩
    · have hx' : ((x.1 : Int) != (pre.length : Int)) = true := by rw [bne_iff_ne]; omega
      have hsl : ∃ a c, v = .slice a pre.length c := by
        rcases hrow.2 with ⟨rfl, h0⟩ | ⟨g, cap, _, rfl, _⟩
        · exact ⟨none, 0, by rw [h0]⟩
        · exact ⟨_, _, rfl⟩
      obtain ⟨a0, c00, hv0⟩ := hsl
      subst hv0
      gi_wp2
      exact ⟨((KeepsOthers.setCell _ _ _).trans (KeepsOthers.alloc _ _)).from _, fun h => hx (itemsR_last h)⟩
  case done =>
    rintro D ys W hD rfl ⟨⟨v, hv, hrow, _⟩, hr0, hB⟩ hK
    rw [itemsR_snd, itemsR_len] at hrow
    have hsl : ∃ a c, v = .slice a l.length c := by
      rcases hrow.2 with ⟨rfl, h0⟩ | ⟨g, cap, _, rfl, _⟩
      · exact ⟨none, 0, by rw [h0]⟩
      · exact ⟨_, _, rfl⟩
    obtain ⟨a0, c00, hv0⟩ := hsl
    subst hv0
    have hc := hv.cell
    have hc0 := hr0.cell
    have hf0 := hr0.frozen
    gi_wp2
    have hK' := (KeepsOthers.setCell W ⟨w.heap.size, 0, none⟩ (.slice a0 l.length c00)).same D _ hK rfl
    refine ⟨by simp, .inl ⟨_, _, rfl, run_takeDeferred hK', ?_⟩⟩
    have hc5 := cell_kept (World.cell?_setCell_same' W ⟨w.heap.size, 0, none⟩ (.slice a0 l.length c00) (by rw [hc0]; rfl)) (grownBy_putObj' _ D (.deferred none)) (fun r e => by cases e; exact ⟨_, hK', rfl⟩)
    refine ⟨.slice a0 l.length c00, ?_, _, rfl, ?_, ?_⟩
    · simp [results, Try.f26, go_sem, hc5]
    · exact ownsRow_putObj (hrow.kept (grownBy_setCell' W w.heap.size _) (.inr (hr0.not_row (by decide) hrow).symm)) _ hK' rfl
    · exact Fr.ofBelow ((hB.setCell (p := ⟨w.heap.size, 0, none⟩) (Nat.le_refl _) _).trans (belowK_b (w := w) (Nat.le_refl _) _ D _ _ (by omega) hK' rfl rfl)) _
  case stop =>
    rintro D c pre W _ h1 h _
    exact absurd h1 h

/-- a row of numbers that a call has made -/
def Own1 (w : World) (lo : Nat) (v : Value) (l : List Int) : Prop := w.ownsRow lo 3 1 v l.length (rowV2 l)

theorem Own1.arr {w : World} {lo : Nat} {v : Value} {l : List Int} (h : Own1 w lo v l) (hs : l.length ≤ 9223372036854775807) : ∃ a c, v = .slice a l.length c ∧ ∀ i x, l[i]? = some x → ∃ b, a = some ⟨b, 0, none⟩ ∧ lo ≤ b ∧ b < w.heap.size ∧ w.cell? ⟨b, i, none⟩ = some (.int .i64 x) := by
  rcases h.2 with ⟨rfl, h0⟩ | ⟨g, cap, cur, rfl, hb, hg, rest⟩
  · refine ⟨none, 0, by rw [h0], fun i x hx => ?_⟩
    have := (List.getElem?_eq_some_iff.1 hx).1
    omega
  · refine ⟨_, _, rfl, fun i x hx => ⟨g, rfl, hb, lt_of_blk hg, ?_⟩⟩
    have := World.ownsRow.cells h (g := g) rfl i (.int .i64 x) (by unfold rowV2; rw [List.getElem?_map, hx]; rfl)
    have ea : (⟨g, 0, none⟩ : Addr).add i = ⟨g, i, none⟩ := by unfold Addr.add; split <;> simp_all
    rwa [ea] at this

theorem rall {w : World} {b g S : Nat} {l : List Int} (h : Rg w b g S l) :
    Calls Try.prog 26 #[.pointer (some ⟨b, 0, none⟩)] w fun e w' => ∃ v, e = .returned v ∧ Own1 w' w.heap.size v l ∧ Fr (fun _ => False) w w' := by
  obtain ⟨f, h⟩ := h
  have hb := lt_of_blk h.blk
  have hg : g < w.heap.size := by obtain ⟨cs, h1, _⟩ := h.row; exact lt_of_blk h1
  refine all_calls _ l w (by have := h.len; have := h.most; omega) fun W hW => ?_
  exact things_calls (h.fr (Fr.ofBelow hW (fun _ => False)) (fun e => e) (fun e => e)) (by have := hW.size; omega) (by have := hW.size; omega)

theorem nall (w : World) :
    Calls Try.prog 26 #[.pointer none] w fun e w' => ∃ v, e = .returned v ∧ Own1 w' w.heap.size v [] ∧ Fr (fun _ => False) w w' :=
  all_calls _ [] w (by simp) fun W hW => nthings W

end Go.Proofs.Ytanmhjnelhjejaa
