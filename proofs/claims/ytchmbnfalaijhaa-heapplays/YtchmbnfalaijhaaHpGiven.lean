/-
  given: does a heap give just these?
-/
import Derived.Test.YtchmbnfalaijhaaHpAll
import Derived.Test.YtchmbnfalaijhaaHpArr
import Derived.RangeFuncBox
import Derived.Maps.AppendAt
namespace Go.Proofs.Ytchmbnfalaijhaa
open Go.RowKit Go.Shelf
attribute [local go_sem] Oper.semAt_some
set_option linter.unusedVariables false
set_option maxRecDepth 100000

def ThV (vs : List Value) (e : En Int) : Prop := vs = [.int .i64 e.t, .int .i64 e.k, .int .i64 e.x]
abbrev ThA := Arr ThV 3

theorem Arr.th {hi : Nat} {w : World} {a : Option Addr} {n : Nat} {l : List (En Int)} (h : ThA hi w a n l) {i : Nat} (hi' : i < n) :
    ∃ b off e, a = some ⟨b, off, none⟩ ∧ b < hi ∧ l[i]? = some e ∧ w.cell? ⟨b, off + i * 3, none⟩ = some (.int .i64 e.t) ∧ w.cell? ⟨b, off + i * 3 + 2, none⟩ = some (.int .i64 e.x) := by
  obtain ⟨b, off, x, vs, h1, h2, h3, h4, rfl⟩ := h.at hi'
  have q0 := h4 0 _ rfl
  have q2 := h4 2 _ rfl
  simp at q0
  exact ⟨b, off, x, h1, h2, h3, q0, q2⟩

theorem boxed_ke {W : World} {B : Nat} {t : TypeId} {v : Value} (h : Boxed W B t v) (ht : t ≠ 92) (u : Value) : KE W (W.setCell ⟨B, 0, none⟩ u) := KE.fr (Fr.set1 W B 0 u) (fun q cs hq e => by
  subst e
  have h2 : W.heap[q]? = some (.cells #[v] t (0, 0)) := h
  rw [h2] at hq
  simp at hq
  exact ht hq.2)

theorem pre_last {l : List (En Int)} {pre : List (Int × Int)} {x : Int × Int} (h : pre ++ [x] <+: itemsH l l.length) : (l.map fun e => (e.t, e.x))[pre.length]? = some x := by
  obtain ⟨s, hs⟩ := h
  unfold itemsH at hs
  rw [List.take_length] at hs
  rw [← hs]; simp

set_option maxHeartbeats 4000000 in
theorem given_calls (p : Option Addr) (l wl : List (En Int)) (w : World) {a : Option Addr} {n c : Nat} (hl : l.length ≤ 4194304) (A : ThA w.heap.size w a n wl) (heq : (l.map fun e => (e.t, e.x)) = wl.map fun e => (e.t, e.x))
    (hT : ∀ W, Below w.heap.size w W → Calls Try.prog 59 #[.pointer p] W fun e w' => ∃ a c, e = .returned (.slice a l.length c) ∧ LE w' W.heap.size a l ∧ Fr (fun _ => False) W w') :
    Calls Try.prog 34 #[.pointer p, .slice a n c] w fun e w' => e = .returned (.bool true) ∧ Fr (fun _ => False) w w' := by
  refine (callsIn_wide (n := 4)).1 ?_
  refine callsIn_of_wp_marks Try.func34 rfl trivial ?_ rfl
  simp only [Try.ntmps34, List.size_toArray, List.length_cons, List.length_nil, Nat.reduceAdd, Nat.reduceSub, Array.replicate_succ, Array.replicate_zero, List.push_toArray, List.append_toArray, List.nil_append, List.cons_append]
  have HT := hide hT
  have hwl := A.len
  have hll : l.length = n := by have := congrArg List.length heq; simp at this; omega
  have HLL := hide hll
  clear hT hll
  gi_wp2_with (refine ⟨trivial, ?_⟩; gi_at_call 42; refine (callsIn_wide.2 (hall_in _ _)).mono ?_; rintro e w' ⟨rfl, rfl⟩)
  have b0 := Boxed.new w 47 (.slice a n c)
  have b1 := Boxed.new (w.alloc (.cells #[.slice a n c] 47)) 4 (.bool false)
  have b2 := Boxed.new ((w.alloc (.cells #[.slice a n c] 47)).alloc (.cells #[.bool false] 4)) 3 (.int .i64 0)
  have b3 := Boxed.new (((w.alloc (.cells #[.slice a n c] 47)).alloc (.cells #[.bool false] 4)).alloc (.cells #[.int .i64 0] 3)) 44 (.pointer p)
  simp only [World.size_alloc] at b1 b2 b3
  have hB0 : Below w.heap.size w ((((w.alloc (.cells #[.slice a n c] 47)).alloc (.cells #[.bool false] 4)).alloc (.cells #[.int .i64 0] 3)).alloc (.cells #[.pointer p] 44)) := ((((Below.refl _ w).alloc (Nat.le_refl _) _).alloc (by simp) _).alloc (by simp; omega) _).alloc (by simp; omega) _
  have q0 := ((b0.alloc (.cells #[.bool false] 4)).alloc (.cells #[.int .i64 0] 3)).alloc (.cells #[.pointer p] 44)
  have q1 := (b1.alloc (.cells #[.int .i64 0] 3)).alloc (.cells #[.pointer p] 44)
  have q2 := b2.alloc (.cells #[.pointer p] 44)
  have zz : ((((w.alloc (.cells #[.slice a n c] 47)).alloc (.cells #[.bool false] 4)).alloc (.cells #[.int .i64 0] 3)).alloc (.cells #[.pointer p] 44)).heap.size = w.heap.size + 4 := by simp
  generalize (((w.alloc (.cells #[.slice a n c] 47)).alloc (.cells #[.bool false] 4)).alloc (.cells #[.int .i64 0] 3)).alloc (.cells #[.pointer p] 44) = w0 at *
  clear b0 b1 b2
  refine wpIn_rangeFunc_ownG (α := Int × Int) rfl (by omega) (gf := 58) (lb := #[.pointer (some ⟨w.heap.size + 1 + 1 + 1, 0, none⟩)]) rfl trivial (enters_of Try.func58 (by kernel_rfl) rfl)
    (hall1_stops 3 (by omega) (w.heap.size + 1 + 1 + 1) p l w0 hl b3 (fun W hW => unhide HT W (hB0.trans (hW.mono (by omega))))) KE.trans (fun W l o o' _ h hc _ => KE.put W l o o' h hc) (Below.refl _ _) (fun _ => rfl)
    (fun pre W => Boxed W (w.heap.size + 1 + 1) 3 (.int .i64 (pre.length : Int)) ∧ Boxed W w.heap.size 47 (.slice a n c) ∧ Boxed W (w.heap.size + 1) 4 (.bool false) ∧ Below w.heap.size w W)
    (fun c pre W => ¬ pre <+: itemsH l l.length)
    (OwnFrom.and (Own.from (boxed_own _ _ (fun pre : List (Int × Int) => .int .i64 (pre.length : Int))) _) (OwnFrom.and (Own.from (boxed_own _ _ _) _) (OwnFrom.and (Own.from (boxed_own _ _ _) _) (ownFrom_below (Nat.le_refl _) (by omega)))))
    (fun c => ownFrom_pure _ (fun pre => ¬ pre <+: itemsH l l.length))
    ⟨q2, q0, q1, hB0⟩
    (fun x => { tmps := #[.pointer p, .slice a n c, undef, .pointer (some ⟨w.heap.size, 0, none⟩), .pointer (some ⟨w.heap.size + 1, 0, none⟩), .pointer (some ⟨w.heap.size + 1 + 1, 0, none⟩), .int .i64 x.1, .int .i64 x.2, .pointer p, .func (.func 58) #[] #[.pointer (some ⟨w.heap.size + 1 + 1 + 1, 0, none⟩)], .int .i64 x.1, .int .i64 x.2, undef, undef, undef, undef, undef, undef, undef, undef, undef, undef, undef, undef, undef, undef, undef, undef, undef, undef, undef, undef, undef, undef, undef, undef, undef, undef, undef, undef], defers := [] }) ?assign ?body ?done ?stop
  case assign =>
    intro l x W K hK
    dsimp only [itH]
    gi_wp2
    exact hK
  case body =>
    rintro lp pre x W ⟨hv, hr0, hr1, hB⟩ hlt
    have hc := hv.cell
    have hf := hv.frozen
    have hc0 := hr0.cell
    have hc1 := hr1.cell
    have hf1 := hr1.frozen
    have hz := hB.size
    have hns := A.small
    have hln : l.length ≤ 4194304 := hl
    have hpn : pre.length < n := by have := unhide HLL; omega
    have hpn' : ¬ (pre.length : Int) ≥ (n : Int) := by omega
    obtain ⟨bb, off, e, rfl, hbb, hle, h1, h2⟩ := Arr.th (A.fr (Below.fr hB) (fun _ h => h)) hpn
    by_cases hx1 : x.1 = e.t
    · by_cases hx2 : x.2 = e.x
      · rw [← hx1] at h1
        rw [← hx2] at h2
        gi_wp2
        have hkk : KE W _ := boxed_ke hv (by decide) (.int .i64 ((pre.length : Int) + 1))
        exact ⟨(KeepsOthers.setCell _ _ _).from _, hkk, by have := hv.set (.int .i64 ((pre.length : Int) + 1)); simpa using this, hr0.other (by omega) _, hr1.other (by omega) _, hB.setCell (p := ⟨w.heap.size + 1 + 1, 0, none⟩) (show w.heap.size ≤ w.heap.size + 1 + 1 by omega) _⟩
      · have hne2 : (x.2 == e.x) = false := by simpa using hx2
        rw [← hx1] at h1
        gi_wp2
        exact ⟨(KeepsOthers.setCell _ _ _).from _, fun h => hx2 (by
          have := pre_last h
          rw [heq, List.getElem?_map, hle] at this
          simp at this
          rw [← this])⟩
    · have hne1 : (x.1 == e.t) = false := by simpa using hx1
      gi_wp2
      exact ⟨(KeepsOthers.setCell _ _ _).from _, fun h => hx1 (by
        have := pre_last h
        rw [heq, List.getElem?_map, hle] at this
        simp at this
        rw [← this])⟩
  case done =>
    rintro D ys W hD rfl ⟨hv, hr0, hr1, hB⟩ hK
    have hlen : (itemsH l l.length).length = n := by rw [itemsH_len l (Nat.le_refl _), unhide HLL]
    rw [hlen] at hv
    have hc := hv.cell
    have hc0 := hr0.cell
    have hc1 := hr1.cell
    have hf1 := hr1.frozen
    gi_wp2
    have hK' := (KeepsOthers.setCell W ⟨w.heap.size + 1, 0, none⟩ (.bool true)).same D _ hK rfl
    refine ⟨by simp, .inl ⟨_, _, rfl, run_takeDeferred hK', ?_⟩⟩
    have hc5 := cell_kept (World.cell?_setCell_same' W ⟨w.heap.size + 1, 0, none⟩ (.bool true) (by rw [hc1]; rfl)) (grownBy_putObj' _ D (.deferred none)) (fun r e => by cases e; exact ⟨_, hK', rfl⟩)
    refine ⟨.bool true, ?_, rfl, ?_⟩
    · simp [results, Try.f34, go_sem, hc5]
    · exact Fr.ofBelow ((hB.setCell (p := ⟨w.heap.size + 1, 0, none⟩) (show w.heap.size ≤ w.heap.size + 1 by omega) _).trans (belowK_b (w := w) (Nat.le_refl _) _ D _ _ (by omega) hK' rfl rfl)) _
  case stop =>
    rintro D c pre W _ h1 h _
    exact absurd h1 h

end Go.Proofs.Ytchmbnfalaijhaa
