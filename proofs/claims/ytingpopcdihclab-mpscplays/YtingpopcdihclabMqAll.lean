/-
  items: the list of what a queue gives.
-/
import Derived.Test.YtingpopcdihclabMqItems
namespace Go.Proofs.Ytingpopcdihclab
open Go.RowKit Go.Shelf
attribute [local go_sem] Oper.semAt_some
set_option linter.unusedVariables false
set_option maxRecDepth 100000

set_option maxHeartbeats 4000000 in
theorem items_gen (p : Option Addr) (l : List Int) (w : World) (hl : l.length ≤ 100000)
    (hT : ∀ W, Below w.heap.size w W → Calls Try.prog 27 #[.pointer p] W fun e w' => ∃ v, e = .returned v ∧ LS w' W.heap.size v l ∧ Fr (fun _ => False) W w') :
    Calls Try.prog 18 #[.pointer p] w fun e w' => ∃ v, e = .returned v ∧ LS w' w.heap.size v l ∧ Fr (fun _ => False) w w' := by
  refine (callsIn_wide (n := 4)).1 ?_
  refine callsIn_of_wp_marks Try.func18 rfl trivial ?_ rfl
  simp only [Try.ntmps18, List.size_toArray, List.length_cons, List.length_nil, Nat.reduceAdd, Nat.reduceSub, Array.replicate_succ, Array.replicate_zero, List.push_toArray, List.append_toArray, List.nil_append, List.cons_append]
  have HT := hide hT
  clear hT
  gi_wp2_with (refine ⟨trivial, ?_⟩; gi_at_call 20; refine (callsIn_wide.2 (items_in _ _)).mono ?_; rintro e w' ⟨rfl, rfl⟩)
  have b0 := Boxed.new w 42 (.slice none 0 0)
  have b2 := Boxed.new (w.alloc (.cells #[.slice none 0 0] 42)) 24 (.pointer p)
  simp only [World.size_alloc] at b2
  have hB0 : Below w.heap.size w ((w.alloc (.cells #[.slice none 0 0] 42)).alloc (.cells #[.pointer p] 24)) := ((Below.refl _ w).alloc (Nat.le_refl _) _).alloc (by simp) _
  have q1 := b0.alloc (.cells #[.pointer p] 24)
  have zz : ((w.alloc (.cells #[.slice none 0 0] 42)).alloc (.cells #[.pointer p] 24)).heap.size = w.heap.size + 2 := by simp
  generalize (w.alloc (.cells #[.slice none 0 0] 42)).alloc (.cells #[.pointer p] 24) = w0 at *
  clear b0
  refine wpIn_rangeFunc_ownG (α := Int) rfl (by omega) (gf := 26) (lb := #[.pointer (some ⟨w.heap.size + 1, 0, none⟩)]) rfl trivial (enters_of Try.func26 (by kernel_rfl) rfl)
    (items_stops 3 (by omega) (w.heap.size + 1) p l w0 (KA w.heap.size) (fun q W => q ≠ w.heap.size ∧ rowBlk W w.heap.size ≠ some q) hl b2 ?hS0 ?hSK (fun W hW => unhide HT W (hB0.trans (hW.mono (by omega))))) KA.trans (KA.put (by omega)) (Below.refl _ _) (fun _ => rfl)
    (fun pre W => (∃ v, Boxed W w.heap.size 42 v ∧ W.ownsRow w.heap.size 2 1 v pre.length (rowV2 pre) ∧ True) ∧ Below w.heap.size w W)
    (fun c pre W => False)
    (OwnFrom.and (Own.from (holdsRow_own w.heap.size w.heap.size 42 2 1 (fun pre : List Int => pre.length) (fun pre => rowV2 pre) (fun pre v => True)) _) (ownFrom_below (Nat.le_refl _) (by omega)))
    (fun c => ownFrom_pure _ (fun pre => False))
    ⟨⟨_, q1, World.ownsRow_nil _ _ _ _, trivial⟩, hB0⟩
    (fun x => { tmps := #[.pointer p, undef, .slice none 0 0, .pointer (some ⟨w.heap.size, 0, none⟩), .int .i64 x, .pointer p, .func (.func 26) #[] #[.pointer (some ⟨w.heap.size + 1, 0, none⟩)], .int .i64 x, undef, undef, undef, undef, undef], defers := [] }) ?assign ?body ?done ?stop
  case hS0 =>
    intro W W' q hW hF h1 h2
    have e1 : W'.heap[w.heap.size]? = w0.heap[w.heap.size]? := (hF.block _ (by have := hW.size; omega) (fun h => h)).trans (hW.block _ (by omega))
    refine ⟨by have := hW.size; omega, ?_⟩
    rw [rowBlk_same e1, rowBlk_boxed q1]
    simp [Value.ownBlock]
  case hSK =>
    rintro q W W' ⟨h1, h2⟩ ⟨cs, t, hq⟩ hK
    refine ⟨⟨h1, fun e => ?_⟩, hK.keep q cs t hq h1 h2⟩
    rcases hK.row with f | f
    · exact h2 (f ▸ e)
    · have := f q e
      have := lt_of_blk hq
      omega
  case assign =>
    intro l x W K hK
    dsimp only [itQ]
    gi_wp2
    exact hK
  case body =>
    rintro lp pre x W ⟨⟨v, hv, hrow, _⟩, hB⟩ hlt
    have hc := hv.cell
    have hsl : ∃ a c, v = .slice a pre.length c := by
      rcases hrow.2 with ⟨rfl, h0⟩ | ⟨g, cap, _, rfl, _⟩
      · exact ⟨none, 0, by rw [h0]⟩
      · exact ⟨_, _, rfl⟩
    obtain ⟨a0, c00, hv0⟩ := hsl
    subst hv0
    have hnb : (Value.slice a0 pre.length c00).ownBlock ≠ some w.heap.size := (hv.not_row (by decide) hrow).symm
    gi_wp2_with (gi_at_builtin; refine wpListIn_append_foot _ rfl _ _ 42 rfl w.heap.size 2 (.int .i64 0) 1 8 Try.underlying42 Try.infoLong rfl (by decide) _ _ _ rfl (hrow.alloc _) ⟨W.heap.size, 0, none⟩ 1 1 [.int .i64 x] rfl rfl (cell_one_new _ _ _) (by simp [Value.oneCell']) (by unfold maxLen; omega) (by omega) (by have := hB.size; simp; omega) ?_; intro v' w1 hown' hgrow hft; obtain ⟨g', cap', rfl⟩ := ownsRow_succ hown'; obtain ⟨hv1, hv2, hr2, hk2, hb2⟩ := hv.appended (by decide) hrow hB.size (Nat.le_refl _) hown' hgrow; have hc1 := hv1.cell; have hf1 := hv1.frozen)
    exact ⟨hk2.from _, KA.append hv hnb hgrow hft, ⟨_, hv2, by simpa [rowV2] using hr2, trivial⟩, hB.trans hb2⟩
  case done =>
    rintro D ys W hD rfl ⟨⟨v, hv, hrow, _⟩, hB⟩ hK
    have hsl : ∃ a c, v = .slice a ys.length c := by
      rcases hrow.2 with ⟨rfl, h0⟩ | ⟨g, cap, _, rfl, _⟩
      · exact ⟨none, 0, by rw [h0]⟩
      · exact ⟨_, _, rfl⟩
    obtain ⟨a0, c00, hv0⟩ := hsl
    subst hv0
    have hc := hv.cell
    gi_wp2
    refine ⟨by simp, .inl ⟨_, _, rfl, run_takeDeferred hK, ?_⟩⟩
    refine ⟨.slice a0 ys.length c00, ?_, _, rfl, ?_, ?_⟩
    · simp [results, Try.f18, go_sem]
    · exact OS.ofOwns (ownsRow_putObj hrow _ hK rfl)
    · exact Fr.ofBelow (hB.trans (belowK_b (w := w) (Nat.le_refl _) _ D _ _ (by omega) hK rfl rfl)) _
  case stop =>
    rintro D c pre W _ h1 h _
    exact h.elim

/-- what the law's list of a queue's things is -/
theorem items_calls {w : World} {lo b : Nat} {q : Qu} (h : IsQ w lo b q) (W : Wf q) {l : List Nat} (hC : Chn q (q.nx q.tail) l) (hl : l.length ≤ 100000) :
    Calls Try.prog 18 #[.pointer (some ⟨b, 0, none⟩)] w fun e w' => ∃ v, e = .returned v ∧ LS w' w.heap.size v (l.map q.v) ∧ Fr (fun _ => False) w w' :=
  items_gen _ _ w (by simpa using hl) fun W1 hW => values_calls (h.fr (Fr.ofBelow hW (fun _ => False)) (fun e => e) (fun _ _ e => e)) W hC hl

theorem nitems (w : World) :
    Calls Try.prog 18 #[.pointer none] w fun e w' => ∃ v, e = .returned v ∧ LS w' w.heap.size v [] ∧ Fr (fun _ => False) w w' :=
  items_gen _ [] w (by simp) fun W1 hW => (nvalues W1).mono fun e w' ⟨h1, h2⟩ => ⟨_, h1, OS.nil _ _ _ _, h2 ▸ Fr.refl _ _⟩

end Go.Proofs.Ytingpopcdihclab
