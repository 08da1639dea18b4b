/-
  HeapGives: what All gives is just what Pop hands out then; who leaves early changes nothing.
-/
import Derived.Test.YtijiackjlgpgpaaHpGivesPlain
import Derived.Test.YtijiackjlgpgpaaHpAll
import Derived.Test.YtijiackjlgpgpaaFootIn
import Derived.RangeFuncBox
import Derived.Maps.AppendAt
import Derived.Shelf.RegionOpen
import Derived.Deep.RegionWith
import Derived.Deep.RegionHeld3
namespace Go.Proofs.Ytijiackjlgpgpaa
open Go.RowKit Go.Shelf
attribute [local go_sem] Oper.semAt_some
set_option linter.unusedVariables false
set_option maxRecDepth 100000

/-- the same, and no panic -/
def noP (Q : Exit → Act → World → Prop) : Exit → Act → World → Prop
  | .panic _, _, _ => False
  | .outgrown, _, _ => False
  | .normal, a, w => Q .normal a w
  | .ret, a, w => Q .ret a w
  | .exit i, a, w => Q (.exit i) a w
  | .goto t, a, w => Q (.goto t) a w
theorem noP_imp {Q : Exit → Act → World → Prop} : ∀ e a w, noP Q e a w → Q e a w
  | .panic _, _, _, h => h.elim
  | .outgrown, _, _, h => h.elim
  | .normal, _, _, h => h
  | .ret, _, _, h => h
  | .exit _, _, _, h => h
  | .goto _, _, _, h => h

/-- what sorted says -/
def SortedSays : Prop := ∀ (w : World) (lo b n : Nat) (M S : List (En Int)), Hp w lo b n M → S.Perm M → S.Pairwise (fun a b => lt3 a b) →
  Calls Try.prog 39 #[.pointer (some ⟨b, 0, none⟩)] w fun e w' => ∃ a c, e = .returned (.slice a S.length c) ∧ LE w' w.heap.size a S ∧ Fr (fun _ => False) w w'

/-- where the law stands -/
def GW (w : World) (b : Nat) (leave : Int) (k m : Nat) (V : World) : Prop := ∃ M, Hp V (w.heap.size + 1) b m M ∧ Tk M m ∧ m ≤ k ∧ (∀ e ∈ M, e.t ≤ 9223372036854775807) ∧ Boxed V w.heap.size 3 (.int .i64 leave) ∧ Below w.heap.size w V

theorem GW.q {w V V' : World} {b k m : Nat} {leave : Int} (h : GW w b leave k m V) (hf : Fr (fun _ => False) V V') : GW w b leave k m V' := by
  obtain ⟨M, h1, h2, h3, h6, h4, h5⟩ := h
  exact ⟨M, h1.up hf, h2, h3, h6, hf.blk h4 (fun h => h), h5.trans (hf.below h5.size (fun _ _ h => h))⟩

theorem gw_put {w V : World} {b k m : Nat} {leave : Int} (h : GW w b leave k m V) (hm : m < 4194304) (t x : Int) (ht : t ≤ 9223372036854775807) :
    Calls Try.prog 14 #[.pointer (some ⟨b, 0, none⟩), .int .i64 t, .int .i64 x] V fun e V' => e = .returned (.int .i64 ((m : Int) + 1)) ∧ GW w b leave (k + 1) (m + 1) V' ∧ FrL (w.heap.size + 1) V V' := by
  obtain ⟨M, h1, h2, h3, h6, h4, h5⟩ := h
  have hlt := lt_of_blk (show _ = _ from h4)
  exact (gput h1 hlt hm t x).mono fun e V' ⟨g1, g2, f⟩ => ⟨g1, ⟨_, g2, h2.put t x, by omega, (fun e he => by
    rcases List.mem_append.1 he with he | he
    · exact h6 e he
    · simp at he; subst he; exact ht), f.blk h4 (fun h => by have := h.1; omega), h5.trans (f.below h5.size (fun k hk h => by have := h.1; omega))⟩, f.l⟩

theorem gw_cancel {w V : World} {b k m : Nat} {leave : Int} (h : GW w b leave k m V) (t : Int) (ht : -9223372036854775808 ≤ t ∧ t ≤ 9223372036854775807) :
    Calls Try.prog 16 #[.pointer (some ⟨b, 0, none⟩), .int .i64 t] V fun e V' => ∃ r, e = .returned (.bool r) ∧ GW w b leave (k + 1) m V' := by
  obtain ⟨M, h1, h2, h3, h6, h4, h5⟩ := h
  exact (gcancel h1 t ht).mono fun e V' ⟨g1, g2, f⟩ => ⟨_, g1, _, g2, h2.del t, by omega, (fun e he => h6 e (List.mem_filter.1 he).1), f.blk h4 (fun h => by have := h.1; omega), h5.trans (f.below h5.size (fun k hk h => by have := h.1; omega))⟩

/-- an append to a boxed slice: all stands but its box and its row -/
theorem app_stays {W w1 : World} {tmp : Obj} {Bt base k n : Nat} {T e : TypeId} {v u : Value} {xs : List Value} (hv : Boxed W Bt T v) (hrow : W.ownsRow base e 1 v n xs) (hg : (W.alloc tmp).grownBy w1 v.ownBlock) {o : Obj}
    (hk : W.heap[k]? = some o) (h1 : ∀ cs, o ≠ .cells cs T (0, 0)) (h2 : ∀ cs, o ≠ .cells cs e (0, 0)) : (w1.setCell ⟨Bt, 0, none⟩ u).heap[k]? = some o := by
  have hne : k ≠ Bt := by rintro rfl; rw [show W.heap[k]? = _ from hv] at hk; cases hk; exact h1 _ rfl
  have hlt := lt_of_blk hk
  have hrow' : some k ≠ v.ownBlock := by
    rcases hrow.2 with ⟨rfl, _⟩ | ⟨g, cap, cur, rfl, _, hgb, _⟩
    · simp [Value.ownBlock]
    · intro e'
      simp [Value.ownBlock] at e'
      subst e'
      rw [hgb] at hk
      cases hk
      exact h2 _ rfl
  rw [Below.heap_setCell _ _ _ _ (by exact hne), hg.block k (by rw [World.size_alloc]; omega) hrow', Below.heap_alloc _ _ _ hlt]
  exact hk

/-- the heap's blocks stand -/
abbrev SK (W0 V : World) := Fr (fun k => ¬ HK W0 k) W0 V
theorem SK.own (W0 : World) {B : Nat} (hB : W0.heap.size ≤ B) : OwnFrom B (fun (_ : List (Int × Int)) V => SK W0 V) := fun _ W W' row h hg hr =>
  ⟨hg.os.trans h.os, hg.tape.trans h.tape, hg.output.trans h.output, Nat.le_trans h.size hg.size, fun k hk hn => (hg.block k (by have := h.size; omega) (fun e => by have := (hr _ e.symm).1; omega)).trans (h.block k hk hn)⟩
theorem SK.hp {W0 V : World} {lo b n : Nat} {M : List (En Int)} (h : SK W0 V) (hH : Hp W0 lo b n M) : Hp V lo b n M := by
  obtain ⟨⟨g, bm, h1, h2, h3⟩, h4⟩ := hH
  exact ⟨⟨g, bm, h1.fr h (fun n => n (h1.hk (.inl rfl))) (fun n => n (h1.hk (.inr (.inl rfl)))) (fun n => n (h1.hk (.inr (.inr rfl)))), h2, h3⟩, h4⟩

theorem SK.app {W0 W w1 : World} {tmp : Obj} {Bt base n : Nat} {T e : TypeId} {v u : Value} {xs : List Value} (h : SK W0 W) (hv : Boxed W Bt T v) (hrow : W.ownsRow base e 1 v n xs) (hg : (W.alloc tmp).grownBy w1 v.ownBlock)
    (t1 : T ≠ 65) (t2 : T ≠ 62) (e1 : e ≠ 65) (e2 : e ≠ 62) : SK W0 (w1.setCell ⟨Bt, 0, none⟩ u) := by
  have hs : W.heap.size ≤ w1.heap.size := by have := hg.size; rw [World.size_alloc] at this; omega
  refine ⟨hg.os.trans h.os, hg.tape.trans h.tape, hg.output.trans h.output, by have := h.size; simp [World.setCell]; omega, fun k hk hn => ?_⟩
  have hk0 : HK W0 k := Classical.not_not.1 hn
  have e0 := h.block k hk hn
  rcases hk0 with ⟨es, c, h0⟩ | ⟨cs, h0⟩ | ⟨cs, h0⟩ <;> rw [h0] at e0 ⊢
  · exact app_stays hv hrow hg e0 (fun cs h => by cases h) (fun cs h => by cases h)
  · exact app_stays hv hrow hg e0 (fun cs h => by cases h; exact t1 rfl) (fun cs h => by cases h; exact e1 rfl)
  · exact app_stays hv hrow hg e0 (fun cs h => by cases h; exact t2 rfl) (fun cs h => by cases h; exact e2 rfl)
theorem KE.app {W w1 : World} {tmp : Obj} {Bt base n : Nat} {T e : TypeId} {v u : Value} {xs : List Value} (hv : Boxed W Bt T v) (hrow : W.ownsRow base e 1 v n xs) (hg : (W.alloc tmp).grownBy w1 v.ownBlock)
    (t1 : T ≠ 65) (e1 : e ≠ 65) : KE W (w1.setCell ⟨Bt, 0, none⟩ u) := fun q cs hq => (app_stays hv hrow hg hq (fun cs h => by cases h; exact t1 rfl) (fun cs h => by cases h; exact e1 rfl)).trans hq.symm
theorem owns_app {W w1 : World} {tmp : Obj} {Bt base n base2 n2 : Nat} {T e e2 : TypeId} {v v2 u : Value} {xs xs2 : List Value} (hv : Boxed W Bt T v) (hrow : W.ownsRow base e 1 v n xs) (hg : (W.alloc tmp).grownBy w1 v.ownBlock)
    (h2 : W.ownsRow base2 e2 1 v2 n2 xs2) (t1 : T ≠ e2) (t2 : e ≠ e2) : (w1.setCell ⟨Bt, 0, none⟩ u).ownsRow base2 e2 1 v2 n2 xs2 := by
  refine ⟨h2.1, ?_⟩
  rcases h2.2 with h | ⟨g, cap, cur, rfl, hb, hgb, rest⟩
  · exact .inl h
  · exact .inr ⟨g, cap, cur, rfl, hb, app_stays hv hrow hg hgb (fun cs h => by cases h; exact t1 rfl) (fun cs h => by cases h; exact t2 rfl), rest⟩

/-- between two rounds of the range -/
def HJ (w W0 : World) (Bt : Nat) (leave : Int) (pre : List (Int × Int)) (V : World) : Prop :=
  (∃ v, Boxed V Bt 43 v ∧ V.ownsRow (w.heap.size + 1) 2 1 v pre.length ((pre.map (·.1)).map (Value.int .i64))) ∧ (∃ v, Boxed V (Bt + 1) 44 v ∧ V.ownsRow (w.heap.size + 1) 3 1 v pre.length ((pre.map (·.2)).map (Value.int .i64))) ∧
    Boxed V w.heap.size 3 (.int .i64 leave) ∧ SK W0 V ∧ Below w.heap.size w V

theorem cells_of {W W' : World} {row : Option Nat} (hg : W.grownBy W' row) (hr : ∀ r, row = some r → ∃ o : Obj, W.heap[r]? = some o ∧ o.isCells = false) {b : Nat} {cs : Array Value} {t : TypeId} (h : W.heap[b]? = some (.cells cs t (0, 0))) : W'.heap[b]? = some (.cells cs t (0, 0)) := by
  by_cases e : some b = row
  · obtain ⟨o', ho', hc'⟩ := hr b e.symm
    rw [h] at ho'; cases ho'; cases hc'
  · rw [hg.block b (lt_of_blk h) e]; exact h
theorem HJ.own (w W0 : World) (Bt : Nat) (leave : Int) {B : Nat} (h0 : W0.heap.size ≤ B) (hB : w.heap.size ≤ B) : OwnFrom B (HJ w W0 Bt leave) := by
  intro s W W' row ⟨⟨v, a1, a2⟩, ⟨u, b1, b2⟩, hl, hk, hb⟩ hg hr
  have hc : ∀ {b : Nat} {cs : Array Value} {t : TypeId}, W.heap[b]? = some (.cells cs t (0, 0)) → W'.heap[b]? = some (.cells cs t (0, 0)) := fun h => cells_of hg (fun r e => (hr r e).2) h
  have ho : ∀ {base n : Nat} {T : TypeId} {v : Value} {xs : List Value}, W.ownsRow base T 1 v n xs → W'.ownsRow base T 1 v n xs := fun h => by
    refine ⟨h.1, ?_⟩
    rcases h.2 with h | ⟨g, cap, cur, rfl, hb, hgb, rest⟩
    · exact .inl h
    · exact .inr ⟨g, cap, cur, rfl, hb, hc hgb, rest⟩
  exact ⟨⟨v, hc a1, ho a2⟩, ⟨u, hc b1, ho b2⟩, hc hl, SK.own W0 h0 s W W' row hk hg hr, ownFrom_below (β := Unit) (Nat.le_refl _) hB () W W' row hb hg hr⟩

/-- a round has left -/
def HX (w W0 : World) (Bt : Nat) (leave : Int) (S : List (En Int)) (c : Code) (pre : List (Int × Int)) (V : World) : Prop := pre <+: itemsH S S.length → c = .exit 2 ∧ (pre.length : Int) = leave ∧ HJ w W0 Bt leave pre V
theorem HX.own (w W0 : World) (Bt : Nat) (leave : Int) (S : List (En Int)) (c : Code) {B : Nat} (h0 : W0.heap.size ≤ B) (hB : w.heap.size ≤ B) : OwnFrom B (HX w W0 Bt leave S c) := by
  intro s W W' row h hg hr hp
  obtain ⟨h1, h2, h3⟩ := h hp
  exact ⟨h1, h2, HJ.own w W0 Bt leave h0 hB s W W' row h3 hg hr⟩

theorem hgLong : (Try.prog.info? 2).map (fun i => (i.zero, i.size, i.bytes)) = some (some (.int .i64 0), 1, 8) := by kernel_rfl
theorem hgInt : (Try.prog.info? 3).map (fun i => (i.zero, i.size, i.bytes)) = some (some (.int .i64 0), 1, 8) := by kernel_rfl
theorem cell_one_new (w : World) (x : Value) (T : TypeId) : ∀ (j : Nat) (u : Value), [x][j]? = some u → (w.alloc (.cells #[x] T)).cell? ((⟨w.heap.size, 0, none⟩ : Addr).add j) = some u := by
  intro j u h
  rw [Addr.add_lit, cell_at (blk_new w (.cells #[x] T)) (0 + j)]
  simpa using h

/-- what is no heap's block -/
theorem nhk {V : World} {k : Nat} {o : Obj} (h : V.heap[k]? = some o) (h1 : ∀ es c, o ≠ .map es c) (h2 : ∀ cs, o ≠ .cells cs 65 (0, 0)) (h3 : ∀ cs, o ≠ .cells cs 62 (0, 0)) : ¬ HK V k := by
  rintro (⟨es, c, e⟩ | ⟨cs, e⟩ | ⟨cs, e⟩) <;> rw [h] at e <;> cases e
  · exact h1 _ _ rfl
  · exact h2 _ rfl
  · exact h3 _ rfl

/-- behind the range -/
structure HT (w : World) (Bt D : Nat) (leave : Int) (v u : Value) (pre : List (Int × Int)) (V : World) : Prop where
  b1 : Boxed V Bt 43 v
  r1 : V.ownsRow (w.heap.size + 1) 2 1 v pre.length ((pre.map (·.1)).map (Value.int .i64))
  b2 : Boxed V (Bt + 1) 44 u
  r2 : V.ownsRow (w.heap.size + 1) 3 1 u pre.length ((pre.map (·.2)).map (Value.int .i64))
  bl : Boxed V w.heap.size 3 (.int .i64 leave)
  df : V.heap[D]? = some (.deferred (some []))
  be : Below w.heap.size w V

theorem owns_h {V V' : World} {lo base n : Nat} {T : TypeId} {v : Value} {xs : List Value} (h : V.ownsRow base T 1 v n xs) (hf : FrH lo V V') (h2 : T ≠ 65) (h3 : T ≠ 62) : V'.ownsRow base T 1 v n xs := by
  refine ⟨h.1, ?_⟩
  rcases h.2 with h | ⟨g, cap, cur, rfl, hb, hgb, rest⟩
  · exact .inl h
  · exact .inr ⟨g, cap, cur, rfl, hb, hf.blk hgb (fun e => nhk hgb (fun _ _ h => by cases h) (fun _ h => by cases h; exact h2 rfl) (fun _ h => by cases h; exact h3 rfl) e.2), rest⟩
theorem box_h {V V' : World} {lo k : Nat} {T : TypeId} {v : Value} (h : Boxed V k T v) (hf : FrH lo V V') (h2 : T ≠ 65) (h3 : T ≠ 62) : Boxed V' k T v :=
  hf.blk (show V.heap[k]? = _ from h) (fun e => nhk (show V.heap[k]? = _ from h) (fun _ _ h => by cases h) (fun _ h => by cases h; exact h2 rfl) (fun _ h => by cases h; exact h3 rfl) e.2)

theorem HT.h {w : World} {Bt D : Nat} {leave : Int} {v u : Value} {pre : List (Int × Int)} {V V' : World} (H : HT w Bt D leave v u pre V) (hf : FrH (w.heap.size + 1) V V') : HT w Bt D leave v u pre V' :=
  ⟨box_h H.b1 hf (by decide) (by decide), owns_h H.r1 hf (by decide) (by decide), box_h H.b2 hf (by decide) (by decide), owns_h H.r2 hf (by decide) (by decide), box_h H.bl hf (by decide) (by decide),
    hf.blk H.df (fun e => nhk H.df (fun _ _ h => by cases h) (fun _ h => by cases h) (fun _ h => by cases h) e.2), H.be.trans (hf.below H.be.size (fun k hk h => by have := h.1; omega))⟩

/-- a number of a row's -/
theorem own_cell {V : World} {base n : Nat} {T : TypeId} {v : Value} {xs : List Int} (h : V.ownsRow base T 1 v n (xs.map (Value.int .i64))) {j : Nat} {x : Int} (hx : xs[j]? = some x) (hj : j < n) :
    ∃ g cap, v = .slice (some ⟨g, 0, none⟩) n cap ∧ V.cell? ⟨g, j, none⟩ = some (.int .i64 x) := by
  rcases h.2 with ⟨rfl, h0⟩ | ⟨g, cap, cs, rfl, _, h1, h2, h3, h4, h5⟩
  · omega
  · refine ⟨g, cap, rfl, ?_⟩
    rw [cell_at h1]
    have : (cs.toList.take (n * 1))[j]? = some (.int .i64 x) := by rw [h5, List.getElem?_map, hx]; rfl
    rw [List.getElem?_take, if_pos (by omega)] at this
    simpa using this
theorem own_form {V : World} {base n : Nat} {T : TypeId} {v : Value} {xs : List Value} (h : V.ownsRow base T 1 v n xs) : ∃ a c, v = .slice a n c := by
  rcases h.2 with ⟨rfl, h0⟩ | ⟨g, cap, _, rfl, _⟩
  · exact ⟨none, 0, by rw [h0]⟩
  · exact ⟨_, _, rfl⟩

theorem quiet_plus {P : Program} {f : FuncId} {args : Array Value} {w : World} {q n : Nat} {v : Value} (h : Calls P f args (w.drewN (q + n)) fun e w' => e = .returned v ∧ w.drewN (q + n) = w') :
    Calls P f args (w.drewN (q + n)) fun e w' => e = .returned v ∧ ∃ m, w' = w.drewN (q + m) :=
  h.mono fun e w' ⟨h1, h2⟩ => ⟨h1, n, h2.symm⟩
theorem quiet_one {P : Program} {f : FuncId} {args : Array Value} {w : World} {n : Nat} {v : Value}
    (h : Calls P f args (w.drewN n) fun e w' => e = .returned v ∧ w.drewN n = w') : Calls P f args (w.drewN n) fun e w'' => e = .returned v ∧ ∃ m, w'' = w.drewN m :=
  h.mono fun _ _ ⟨he, hm⟩ => ⟨he, n, hm.symm⟩

set_option maxHeartbeats 20000000 in
theorem gives_calls (HS : SortedSays) {w : World} (leave : Int) {a : Option Addr} {n c : Nat} {l : List Stp} (A : StA w.heap.size w a n l) (hn : n ≤ c) (hc : c ≤ 9223372036854775807) :
    Calls Try.prog 7 #[.slice a n c, .int .i64 leave] w fun e w' => e = .returned (.bool true) ∧ Below w.heap.size w w' := by
  have A2 := A.take (min n 3000) (Nat.min_le_left _ _)
  have hN : min n 3000 ≤ 3000 := Nat.min_le_right _ _
  have hmo : Try.prog.follows .mixedOrders = true := by kernel_rfl
  refine (callsIn_wide (n := 5)).1 ?_
  refine callsIn_of_wp_marks Try.func7 rfl trivial ?_ rfl
  simp only [Try.ntmps7, List.size_toArray, List.length_cons, List.length_nil, Nat.reduceAdd, Nat.reduceSub, Array.replicate_succ, Array.replicate_zero, List.push_toArray, List.append_toArray, List.nil_append, List.cons_append]
  refine wpIn_mono (Q := noP _) ?_ noP_imp
  have b0 := Boxed.new w 3 (.int .i64 leave)
  have hB0 : Below w.heap.size w (w.alloc (.cells #[.int .i64 leave] 3)) := (Below.refl _ w).alloc (Nat.le_refl _) _
  have z0 : (w.alloc (.cells #[.int .i64 leave] 3)).heap.size = w.heap.size + 1 := by simp
  gi_wp2_with (first
    | (refine ⟨trivial, ?_⟩; gi_at_call 10; refine (callsIn_wide.2 (lives_calls _)).mono ?_; rintro e w1 ⟨rfl, hF0⟩)
    | (refine ⟨trivial, ?_⟩; gi_at_call 11; refine (callsIn_wide.2 (early_calls _ a n c hn hc)).mono ?_; rintro e w1' ⟨rfl, rfl⟩)
    | (refine ⟨trivial, ?_⟩; gi_at_call 12; refine (callsIn_wide.2 (gnew _)).mono ?_; rintro e w2 ⟨rfl, hH2, hF2⟩))
  have hs1 := hF0.size
  have h0 : GW w w1.heap.size leave 0 0 w2 := ⟨[], hH2.lower (by omega), Tk.nil, Nat.le_refl _, (fun e he => by cases he), hF2.blk (hF0.blk b0 (fun h => h)) (fun h => h), (hB0.trans (hF0.below (by omega) (fun _ _ h => h))).trans (hF2.below (by omega) (fun _ _ h => h))⟩
  generalize l.take (min n 3000) = l2 at *
  generalize min n 3000 = N at *
  generalize w1.heap.size = b at *
  clear hF0 hF2 hH2 b0 hB0 z0 hs1
  gi_loopw [6] (fun i wr => ∃ (k m : Nat), i = .int .i64 k ∧ k ≤ N ∧ GW w b leave k m wr) (fun i _ => N - (intOf i).toNat)
  case atStart => exact ⟨0, 0, rfl, Nat.zero_le _, h0⟩
  case round =>
    clear h0 A
    obtain ⟨k, m, rfl, hk, hG⟩ := hrel
    have hmk : m ≤ k := by obtain ⟨_, _, _, h, _⟩ := hG; exact h
    have hB := hG.choose_spec.2.2.2.2.2
    by_cases hlt : k < N
    · have hlt' : (k : Int) < (N : Int) := by omega
      obtain ⟨bb, off, s, rfl, hbb, hls, ⟨s0, s1, s2⟩, q0, q1, q2⟩ := (A2.fr (Below.fr hB) (fun _ h => h)).stp hlt
      by_cases hkd : kd s.c = 1
      · gi_wp2_with (first
          | (refine ⟨trivial, ?_⟩; gi_at_call 13; refine (callsIn_wide.2 (kind_val hkd _ _ _)).mono ?_; rintro e w3 ⟨rfl, hF3⟩; have hG3 := hG.q hF3; have p2 := cell_fr hF3 (fun h => h) s2)
          | (refine ⟨trivial, ?_⟩; gi_at_call 16; refine (callsIn_wide.2 (gw_cancel hG3 s.x q2)).mono ?_; rintro e w4 ⟨r, rfl, hG4⟩))
        go_roundw
        case rel => exact ⟨k + 1, m, by go_num, by omega, hG4⟩
        case measure => simp [intOf]; omega
      · have hkd0 : (kd s.c == 1) = false := by simp [hkd]
        gi_wp2_with (refine ⟨trivial, ?_⟩; gi_at_call 13; refine (callsIn_wide.2 (kind_calls s.c s.t s.x _)).mono ?_; rintro e w3 ⟨rfl, hF3⟩; have hG3 := hG.q hF3; have p1 := cell_fr hF3 (fun h => h) s1; have p2 := cell_fr hF3 (fun h => h) s2)
        refine wpIn_wide.2 ?_
        go_region_held3 (fun w' => w'.cell? ⟨bb, off + k * 3 + 1, none⟩ = some (.int .i64 s.t) ∧ w'.cell? ⟨bb, off + k * 3 + 2, none⟩ = some (.int .i64 s.x)) ((first | go_keep | (refine ⟨?_, ?_⟩ <;> assumption)))
          ((go_at_call 14; refine (gw_put (hG3.q ((Fr.refl (fun _ => False) w3).drew)) (by omega) _ _ q1.2).mono ?_; rintro e w4 ⟨rfl, hG4, hF4⟩; have r1 := cell_fr hF4 (fun h => by omega) (show w3.drew.cell? _ = _ from p1); have r2 := cell_fr hF4 (fun h => by omega) (show w3.drew.cell? _ = _ from p2)))
        all_goals
          gi_wp2
          go_roundw
          case rel => exact ⟨k + 1, m + 1, by go_num, by omega, hG4⟩
          case measure => simp [intOf]; omega
    · --E
      obtain rfl : k = N := by omega
      obtain ⟨M, hH, hT, _, hMt, hb, hBl⟩ := hG
      obtain ⟨S, hS, hO⟩ := sorted_ex M.length M rfl hT.rise
      have hSl : S.length ≤ 4194304 := by rw [hS.length_eq]; have := hT.len; omega
      clear hlt A2
      have HL := hide (fun V (hV : Hp V (w.heap.size + 1) b m M) => glen hV)
      gi_wp2_with (first
        | (refine ⟨trivial, ?_⟩; gi_at_call 22; refine (callsIn_wide.2 (unhide HL _ hH)).mono ?_; rintro e w' ⟨rfl, rfl⟩)
        | (refine ⟨trivial, ?_⟩; gi_at_call 31; refine (callsIn_wide.2 (hall_in _ _)).mono ?_; rintro e w' ⟨rfl, rfl⟩))
      have q0 := ((Boxed.new wr 43 (.slice none 0 0)).alloc (.cells #[.slice none 0 0] 44)).alloc (.cells #[.pointer (some ⟨b, 0, none⟩)] 25)
      have q1 := (Boxed.new (wr.alloc (.cells #[.slice none 0 0] 43)) 44 (.slice none 0 0)).alloc (.cells #[.pointer (some ⟨b, 0, none⟩)] 25)
      have q2 := Boxed.new ((wr.alloc (.cells #[.slice none 0 0] 43)).alloc (.cells #[.slice none 0 0] 44)) 25 (.pointer (some ⟨b, 0, none⟩))
      simp only [World.size_alloc] at q1 q2
      have hF0 : Fr (fun _ => False) wr (((wr.alloc (.cells #[.slice none 0 0] 43)).alloc (.cells #[.slice none 0 0] 44)).alloc (.cells #[.pointer (some ⟨b, 0, none⟩)] 25)) := (((Fr.refl _ wr).alloc _).alloc _).alloc _
      have hH0 := hH.up hF0
      have hb0 := hF0.blk hb (fun h => h)
      have hB0 := hBl.trans (hF0.below hBl.size (fun _ _ h => h))
      have hBt := lt_of_blk hb
      generalize ((wr.alloc (.cells #[.slice none 0 0] 43)).alloc (.cells #[.slice none 0 0] 44)).alloc (.cells #[.pointer (some ⟨b, 0, none⟩)] 25) = W0 at *
      generalize wr.heap.size = Bt at *
      clear hH hb hBl hF0
      have hB2 := q2.lt
      refine wpIn_rangeFunc_ownG (α := Int × Int) rfl (by omega) (gf := 38) (lb := #[.pointer (some ⟨Bt + 1 + 1, 0, none⟩)]) rfl trivial (enters_of Try.func38 (by kernel_rfl) rfl)
        (hall1_stops 4 (by omega) (Bt + 1 + 1) (some ⟨b, 0, none⟩) S W0 hSl q2 (fun W hW => HS W _ _ _ M S (hH0.up (Fr.ofBelow hW (fun _ => False))) hS hO)) KE.trans (fun W l o o' _ h hc _ => KE.put W l o o' h hc) (Below.refl _ _) (fun _ => rfl)
        (HJ w W0 Bt leave) (HX w W0 Bt leave S) (HJ.own w W0 Bt leave (Nat.le_refl _) hB0.size) (fun c => HX.own w W0 Bt leave S c (Nat.le_refl _) hB0.size)
        ⟨⟨_, q0, World.ownsRow_nil _ _ _ _⟩, ⟨_, q1, World.ownsRow_nil _ _ _ _⟩, hb0, Fr.refl _ _, hB0⟩
        (fun x => { tmps := #[.slice a k c, .int .i64 leave, undef, .pointer (some ⟨w.heap.size, 0, none⟩), .bool false, .pointer (some ⟨b, 0, none⟩), .int .i64 (k : Int), .int .i64 (M.length : Int), .pointer (some ⟨Bt, 0, none⟩), .pointer (some ⟨Bt + 1, 0, none⟩), .int .i64 x.1, .int .i64 x.2, undef, undef, undef, undef, .bool true, .bool false, .slice a n c, .slice a k c, .pointer (some ⟨b, 0, none⟩), .int .i64 (k : Int), .slice a k c, .int .i64 (k : Int), .bool false, u25, u26, u27, u28, u29, u30, u31, u32, u33, u34, u35, u36, u37, u38, u39, u40, u41, u42, u43, u44, u45, u46, u47, u48, u49, u50, u51, .pointer (some ⟨b, 0, none⟩), .int .i64 (M.length : Int), .pointer (some ⟨b, 0, none⟩), .func (.func 38) #[] #[.pointer (some ⟨Bt + 1 + 1, 0, none⟩)], .int .i64 x.1, .int .i64 x.2, undef, undef, undef, undef, undef, undef, undef, undef, undef, undef, undef, undef, undef, undef, undef, undef, undef, undef, undef, undef, undef, undef, undef, undef, undef, undef, undef, undef, undef, undef, undef, undef, undef, undef, undef, undef, undef, undef, undef, undef, undef, undef, undef, undef, undef, undef, undef, undef, undef, undef, undef, undef, undef, undef, undef, undef, undef, undef, undef, undef, undef, undef, undef, undef, undef], defers := [] }) ?assign ?body ?done ?stop
      case assign =>
        intro l x W K hK
        dsimp only [itH]
        gi_wp2
        exact hK
      case body =>
        rintro lp pre x W ⟨⟨v, hv, hrow⟩, ⟨u, hu, hru⟩, hl, hk, hB⟩ hlt
        have hsl : ∃ a c, v = .slice a pre.length c := by
          rcases hrow.2 with ⟨rfl, h0⟩ | ⟨g, cap, _, rfl, _⟩
          · exact ⟨none, 0, by rw [h0]⟩
          · exact ⟨_, _, rfl⟩
        obtain ⟨a1, c1, rfl⟩ := hsl
        have hsu : ∃ a c, u = .slice a pre.length c := by
          rcases hru.2 with ⟨rfl, h0⟩ | ⟨g, cap, _, rfl, _⟩
          · exact ⟨none, 0, by rw [h0]⟩
          · exact ⟨_, _, rfl⟩
        obtain ⟨a2, c2, rfl⟩ := hsu
        have hc1 := hv.cell
        have hc2 := hu.cell
        have hc3 := hl.cell
        have hll := hl.lt
        have hn0 : w.heap.size + 1 ≤ W.heap.size := hll
        have hln : pre.length < 4194304 := by omega
        by_cases hle : (pre.length : Int) + 1 = leave
        · have hle' : ((pre.length : Int) + 1 == leave) = true := by simpa using hle
          gi_wp2_with (first
            | (gi_at_builtin; refine wpListIn_append_foot _ rfl _ _ 43 rfl (w.heap.size + 1) 2 (.int .i64 0) 1 8 Try.underlying43 hgLong rfl (by decide) _ _ _ rfl (hrow.alloc _) ⟨W.heap.size, 0, none⟩ 1 1 [.int .i64 x.1] rfl rfl (cell_one_new _ _ _) (by simp [Value.oneCell']) (by unfold maxLen; omega) (by omega) (by simp; omega) ?_; intro v' w1 hown' hgrow hft; obtain ⟨g', cap', rfl⟩ := ownsRow_succ hown'; obtain ⟨hv1, hv2, hr2, hk2, hb2⟩ := hv.appended (by decide) hrow hn0 (by omega) hown' hgrow; have d1 := hv1.cell; have d2 := hv1.frozen; have hu2 := app_stays (u := .slice (some ⟨g', 0, none⟩) (pre.length + 1) cap') hv hrow hgrow (show _ = _ from hu) (fun cs h => by cases h) (fun cs h => by cases h); have hru2 := owns_app (u := .slice (some ⟨g', 0, none⟩) (pre.length + 1) cap') hv hrow hgrow hru (by decide) (by decide); have hs2 := hk.app (u := .slice (some ⟨g', 0, none⟩) (pre.length + 1) cap') hv hrow hgrow (by decide) (by decide) (by decide) (by decide); have he2 := KE.app (u := .slice (some ⟨g', 0, none⟩) (pre.length + 1) cap') hv hrow hgrow (by decide) (by decide); have d3 := (show Boxed _ _ _ _ from hu2).cell; have hz2 := Nat.le_trans hn0 hb2.size; have hone := cell_one_new (w1.setCell ⟨Bt, 0, none⟩ (.slice (some ⟨g', 0, none⟩) (pre.length + 1) cap')) (.int .i64 x.2) 3; have hz1 : (w1.setCell ⟨Bt, 0, none⟩ (.slice (some ⟨g', 0, none⟩) (pre.length + 1) cap')).heap.size = w1.heap.size := (by simp [World.setCell]); rw [hz1] at hone; have hz3 : w.heap.size + 1 ≤ w1.heap.size := (by rw [← hz1]; exact hz2); have HONE := hide hone; have HZ1 := hide hz1; have HZ2 := hide hz2; clear hone hz1 hz2)
            | (gi_at_builtin; go_loud (refine wpListIn_append_foot _ rfl _ _ 44 rfl (w.heap.size + 1) 3 (.int .i64 0) 1 8 Try.underlying44 hgInt rfl (by decide) _ _ _ rfl (hru2.alloc _) ⟨w1.heap.size, 0, none⟩ 1 1 [.int .i64 x.2] rfl rfl (unhide HONE) (by simp [Value.oneCell']) (by unfold maxLen; omega) (by omega) (by rw [World.size_alloc, HZ1.out]; omega) ?_; intro v'' w2 hown'' hgrow2 hft2; obtain ⟨g'', cap'', rfl⟩ := ownsRow_succ hown''; obtain ⟨hw1, hw2, hr3, hk3, hb3⟩ := (show Boxed _ _ _ _ from hu2).appended (by decide) hru2 (unhide HZ2) (by omega) hown'' hgrow2; have f1 := hw1.cell; have f2 := hw1.frozen; have hl3 : Boxed (w2.setCell ⟨Bt + 1, 0, none⟩ (.slice (some ⟨g'', 0, none⟩) (pre.length + 1) cap'')) w.heap.size 3 (.int .i64 leave) := (hb3.block _ (by omega)).trans ((hb2.block _ (by omega)).trans hl); have f3 := hl3.cell)))
          have hJ : HJ w W0 Bt leave (pre ++ [x]) (w2.setCell ⟨Bt + 1, 0, none⟩ (.slice (some ⟨g'', 0, none⟩) (pre.length + 1) cap'')) :=
            ⟨⟨_, app_stays (show Boxed _ _ _ _ from hu2) hru2 hgrow2 (show _ = _ from hv2) (fun cs h => by cases h) (fun cs h => by cases h), by have := owns_app (u := .slice (some ⟨g'', 0, none⟩) (pre.length + 1) cap'') (show Boxed _ _ _ _ from hu2) hru2 hgrow2 hr2 (by decide) (by decide); simpa using this⟩, ⟨_, hw2, by simpa using hr3⟩, hl3, hs2.app (show Boxed _ _ _ _ from hu2) hru2 hgrow2 (by decide) (by decide) (by decide) (by decide), (hB.trans (hb2.mono (Nat.le_succ _))).trans (hb3.mono (Nat.le_succ _))⟩
          exact ⟨(hk2.trans hk3).from _, fun _ => ⟨rfl, by rw [← hle]; simp, hJ⟩⟩
        · have hle' : ((pre.length : Int) + 1 == leave) = false := by simpa using hle
          gi_wp2_with (first
            | (gi_at_builtin; refine wpListIn_append_foot _ rfl _ _ 43 rfl (w.heap.size + 1) 2 (.int .i64 0) 1 8 Try.underlying43 hgLong rfl (by decide) _ _ _ rfl (hrow.alloc _) ⟨W.heap.size, 0, none⟩ 1 1 [.int .i64 x.1] rfl rfl (cell_one_new _ _ _) (by simp [Value.oneCell']) (by unfold maxLen; omega) (by omega) (by simp; omega) ?_; intro v' w1 hown' hgrow hft; obtain ⟨g', cap', rfl⟩ := ownsRow_succ hown'; obtain ⟨hv1, hv2, hr2, hk2, hb2⟩ := hv.appended (by decide) hrow hn0 (by omega) hown' hgrow; have d1 := hv1.cell; have d2 := hv1.frozen; have hu2 := app_stays (u := .slice (some ⟨g', 0, none⟩) (pre.length + 1) cap') hv hrow hgrow (show _ = _ from hu) (fun cs h => by cases h) (fun cs h => by cases h); have hru2 := owns_app (u := .slice (some ⟨g', 0, none⟩) (pre.length + 1) cap') hv hrow hgrow hru (by decide) (by decide); have hs2 := hk.app (u := .slice (some ⟨g', 0, none⟩) (pre.length + 1) cap') hv hrow hgrow (by decide) (by decide) (by decide) (by decide); have he2 := KE.app (u := .slice (some ⟨g', 0, none⟩) (pre.length + 1) cap') hv hrow hgrow (by decide) (by decide); have d3 := (show Boxed _ _ _ _ from hu2).cell; have hz2 := Nat.le_trans hn0 hb2.size; have hone := cell_one_new (w1.setCell ⟨Bt, 0, none⟩ (.slice (some ⟨g', 0, none⟩) (pre.length + 1) cap')) (.int .i64 x.2) 3; have hz1 : (w1.setCell ⟨Bt, 0, none⟩ (.slice (some ⟨g', 0, none⟩) (pre.length + 1) cap')).heap.size = w1.heap.size := (by simp [World.setCell]); rw [hz1] at hone; have hz3 : w.heap.size + 1 ≤ w1.heap.size := (by rw [← hz1]; exact hz2); have HONE := hide hone; have HZ1 := hide hz1; have HZ2 := hide hz2; clear hone hz1 hz2)
            | (gi_at_builtin; go_loud (refine wpListIn_append_foot _ rfl _ _ 44 rfl (w.heap.size + 1) 3 (.int .i64 0) 1 8 Try.underlying44 hgInt rfl (by decide) _ _ _ rfl (hru2.alloc _) ⟨w1.heap.size, 0, none⟩ 1 1 [.int .i64 x.2] rfl rfl (unhide HONE) (by simp [Value.oneCell']) (by unfold maxLen; omega) (by omega) (by rw [World.size_alloc, HZ1.out]; omega) ?_; intro v'' w2 hown'' hgrow2 hft2; obtain ⟨g'', cap'', rfl⟩ := ownsRow_succ hown''; obtain ⟨hw1, hw2, hr3, hk3, hb3⟩ := (show Boxed _ _ _ _ from hu2).appended (by decide) hru2 (unhide HZ2) (by omega) hown'' hgrow2; have f1 := hw1.cell; have f2 := hw1.frozen; have hl3 : Boxed (w2.setCell ⟨Bt + 1, 0, none⟩ (.slice (some ⟨g'', 0, none⟩) (pre.length + 1) cap'')) w.heap.size 3 (.int .i64 leave) := (hb3.block _ (by omega)).trans ((hb2.block _ (by omega)).trans hl); have f3 := hl3.cell)))
          have hJ : HJ w W0 Bt leave (pre ++ [x]) (w2.setCell ⟨Bt + 1, 0, none⟩ (.slice (some ⟨g'', 0, none⟩) (pre.length + 1) cap'')) :=
            ⟨⟨_, app_stays (show Boxed _ _ _ _ from hu2) hru2 hgrow2 (show _ = _ from hv2) (fun cs h => by cases h) (fun cs h => by cases h), by have := owns_app (u := .slice (some ⟨g'', 0, none⟩) (pre.length + 1) cap'') (show Boxed _ _ _ _ from hu2) hru2 hgrow2 hr2 (by decide) (by decide); simpa using this⟩, ⟨_, hw2, by simpa using hr3⟩, hl3, hs2.app (show Boxed _ _ _ _ from hu2) hru2 hgrow2 (by decide) (by decide) (by decide) (by decide), (hB.trans (hb2.mono (Nat.le_succ _))).trans (hb3.mono (Nat.le_succ _))⟩
          exact ⟨(hk2.trans hk3).from _, he2.trans (KE.app (show Boxed _ _ _ _ from hu2) hru2 hgrow2 (by decide) (by decide)), hJ⟩
      case done =>
        rintro D pre V hD hpre0 ⟨⟨v, hv, hrow⟩, ⟨u, hu, hru⟩, hl, hk, hB⟩ hK
        have hpre : pre <+: itemsH S S.length := by rw [hpre0]; exact List.prefix_refl _
        have hcase : pre.length = M.length ∨ (pre.length : Int) = leave := .inl (by rw [hpre0, itemsH_len S (Nat.le_refl _), hS.length_eq])
        have hrise := hT.rise
        clear hpre0 hT
        have hH1 := hk.hp hH0
        have hT : HT w Bt D leave v u pre V := ⟨hv, hrow, hu, hru, hl, hK, hB⟩
        have hat : ∀ j e, S[j]? = some e → j < pre.length → (pre.map (·.1))[j]? = some e.t ∧ (pre.map (·.2))[j]? = some e.x := by
          intro j e he hj
          obtain ⟨rest, hr⟩ := hpre
          have h1 : (itemsH S S.length)[j]? = some (e.t, e.x) := by
            unfold itemsH
            rw [List.take_length, List.getElem?_map, he]; rfl
          have h2 : pre[j]? = some (e.t, e.x) := by rw [← h1, ← hr, List.getElem?_append_left hj]
          exact ⟨by rw [List.getElem?_map, h2]; rfl, by rw [List.getElem?_map, h2]; rfl⟩
        have hPS : pre.length ≤ S.length := by
          have := hpre.length_le
          rw [itemsH_len S (Nat.le_refl _)] at this
          exact this
        obtain ⟨a1, c1, rfl⟩ := own_form hrow
        obtain ⟨a2, c2, rfl⟩ := own_form hru
        obtain ⟨P, hP⟩ : ∃ P, pre.length = P := ⟨_, rfl⟩
        obtain ⟨N, hN⟩ : ∃ N, M.length = N := ⟨_, rfl⟩
        have hSN : S.length = N := by rw [hS.length_eq, hN]
        have HL1 : Hid (Calls Try.prog 22 #[.pointer (some ⟨b, 0, none⟩)] V fun e w' => e = .returned (.int .i64 (N : Int)) ∧ V = w') := by rw [← hN]; exact unhide HL _ hH1
        rw [hP] at hPS hcase hT hat
        rw [hN] at hcase
        simp only [hN]
        have hb1 := hT.b1.cell
        have hb2 := hT.b2.cell
        have hb3 := hT.bl.cell
        have lt1 := hT.b1.lt
        have lt2 := hT.b2.lt
        have lt3 := hT.bl.lt
        have hST := hide (show ∃ (Mj : List (En Int)) (lv : Int), Hp V (w.heap.size + 1) b m Mj ∧ (S.drop 0).Perm Mj ∧ Mj.Pairwise (fun a b => a.k < b.k) ∧ HT w Bt D lv (.slice a1 P c1) (.slice a2 P c2) pre V from ⟨M, leave, hH1, by rw [List.drop_zero]; exact hS, hrise, hT⟩)
        have HAT := hide hat
        have HSN := hide hSN
        have HPP := hide hP
        have hPN : P ≤ N := by omega
        have hN22 : N ≤ 4194304 := by omega
        have HMt := hide hMt
        have HSP := hide hS
        have HO := hide hO
        clear hk hT hv hu hl hK hB hrow hru hat hSN hP hN hpre hH1 hPS hH0 hMt hS hO hSl
        have hq : ((P : Int) != (N : Int)) = false ∨ (((P : Int) != (N : Int)) = true ∧ (P : Int) = leave) := by
          rcases hcase with h | h
          · exact .inl (by simp [h])
          · by_cases e : P = N
            · exact .inl (by simp [e])
            · exact .inr ⟨by simpa using fun e' => e (by omega), h⟩
        clear hcase
        rcases hq with hq | ⟨hq, rfl⟩
        all_goals
          gi_wp2_with (refine ⟨trivial, ?_⟩; gi_at_call 22; refine (callsIn_wide.2 (unhide HL1)).mono ?_; rintro e w' ⟨rfl, rfl⟩)
          clear hq hb1 hb2 hb3 lt1 lt2 lt3 HL1
          gi_loopw [12] (fun i wr => ∃ (j : Nat) (Mj : List (En Int)) (lv : Int), j ≤ P ∧ i = .int .i64 j ∧ Hp wr (w.heap.size + 1) b m Mj ∧ (S.drop j).Perm Mj ∧ Mj.Pairwise (fun a b => a.k < b.k) ∧ HT w Bt D lv (.slice a1 P c1) (.slice a2 P c2) pre wr) (fun i _ => P - (intOf i).toNat)
          case atStart =>
            obtain ⟨Mj, lv, h1, h2, h3, h4⟩ := hST.out
            exact ⟨0, Mj, lv, by omega, rfl, h1, h2, h3, h4⟩
          case round =>
            clear hST
            obtain ⟨j, Mj, lv, hj, rfl, hHj, hpm, hri, hTj⟩ := hrel
            have hb1 := hTj.b1.cell
            have hb2 := hTj.b2.cell
            have lt1 := hTj.b1.lt
            have lt2 := hTj.b2.lt
            by_cases hlt : j < P
            · have hjS : j < S.length := by have := HSN.out; omega
              obtain ⟨e, he⟩ : ∃ e, S[j]? = some e := ⟨_, List.getElem?_eq_getElem hjS⟩
              obtain ⟨x1, x2⟩ := HAT.out j e he hlt
              have hdr : S.drop j = e :: S.drop (j + 1) := by
                rw [List.drop_eq_getElem_cons hjS]
                have := List.getElem?_eq_getElem hjS
                rw [he] at this
                rw [Option.some.inj this]
              rw [hdr] at hpm
              have hOj : (e :: S.drop (j + 1)).Pairwise (fun a b => lt3 a b) := by rw [← hdr]; exact HO.out.sublist (List.drop_sublist _ _)
              obtain ⟨hle, hp2, _⟩ := pop_step hri hpm hOj
              have hr2 : (del Mj e.k).Pairwise (fun a b => a.k < b.k) := hri.sublist List.filter_sublist
              have heM := HMt.out e (HSP.out.subset (List.mem_of_getElem? he))
              have HPOP := hide (gpop_yes hHj e hle 9223372036854775807 heM)
              obtain ⟨g1, d1, hv1, k1⟩ := own_cell hTj.r1 x1 (by rw [HPP.out]; exact hlt)
              obtain ⟨g2, d2, hv2, k2⟩ := own_cell hTj.r2 x2 (by rw [HPP.out]; exact hlt)
              simp only [Value.slice.injEq] at hv1 hv2
              obtain ⟨rfl, -, -⟩ := hv1
              obtain ⟨rfl, -, -⟩ := hv2
              have KC := hide (fun (V2 : World) (h2 : HT w Bt D lv (.slice (some ⟨g1, 0, none⟩) P c1) (.slice (some ⟨g2, 0, none⟩) P c2) pre V2) => (⟨own_cell h2.r1 x1 (by rw [HPP.out]; exact hlt), own_cell h2.r2 x2 (by rw [HPP.out]; exact hlt)⟩ : (∃ g cap, Value.slice (some ⟨g1, 0, none⟩) P c1 = .slice (some ⟨g, 0, none⟩) pre.length cap ∧ V2.cell? ⟨g, j, none⟩ = some (.int .i64 e.t)) ∧ ∃ g cap, Value.slice (some ⟨g2, 0, none⟩) P c2 = .slice (some ⟨g, 0, none⟩) pre.length cap ∧ V2.cell? ⟨g, j, none⟩ = some (.int .i64 e.x)))
              have hlt' : (j : Int) < (P : Int) := by omega
              have HP2 := hide hp2
              have HR2 := hide hr2
              have HTJ := hide hTj
              have et1 : (e.t != e.t) = false := by simp
              have ex1 : (e.x != e.x) = false := by simp
              clear hpm hri hdr hOj hle hp2 hr2 heM x1 x2 he hHj k1 k2 hTj hjS
              gi_wp2_with (refine ⟨trivial, ?_⟩; gi_at_call 18; refine (callsIn_wide.2 (unhide HPOP)).mono ?_; rintro r w2 ⟨rfl, hH2, hF2⟩; have hT2 := HTJ.out.h hF2; obtain ⟨⟨g3, d3, hw1, y1⟩, g4, d4, hw2, y2⟩ := KC.out _ hT2; simp only [Value.slice.injEq, Option.some.injEq, Addr.mk.injEq] at hw1 hw2; obtain ⟨⟨rfl, -⟩, -⟩ := hw1; obtain ⟨⟨rfl, -⟩, -⟩ := hw2; have z1 := hT2.b1.cell; have z2 := hT2.b2.cell; have zl1 := hT2.b1.lt; have zl2 := hT2.b2.lt)
              go_roundw
              case rel => exact ⟨j + 1, _, lv, by omega, by go_num, hH2, HP2.out, HR2.out, hT2⟩
              case measure => simp [intOf]; omega
            · obtain rfl : j = P := by omega
              have hlen : (Mj.length : Int) = (N : Int) - (j : Int) := by
                have h1 := hpm.length_eq
                rw [List.length_drop, HSN.out] at h1
                omega
              have HL2 : Hid (∀ q : Nat, Calls Try.prog 22 #[.pointer (some ⟨b, 0, none⟩)] (wr.drewN q) fun e w' => e = .returned (.int .i64 ((N : Int) - (j : Int))) ∧ wr.drewN q = w') := by
                rw [← hlen]
                exact fun q => glen (hHj.up (((Fr.refl (fun _ => False) wr).drewN q)))
              have hdf := hTj.df
              have hbe := hTj.be
              have hes : (((N : Int) - (j : Int)) == ((N : Int) - (j : Int))) = true := by simp
              clear hpm hri hHj hlen hTj
              gi_wp2
              refine wpIn_wide.2 ?_
              go_quiet ((go_at_call 22; first | exact quiet_one (unhide HL2 _) | exact quiet_plus (unhide HL2 _)))
              gi_wp2
              refine ⟨by simp, .inl ⟨_, _, rfl, run_takeDeferred (show (wr.drewN _).heap[D]? = _ from hdf), ?_⟩⟩
              refine ⟨.bool true, ?_, rfl, ?_⟩
              · simp [results, Try.f7, go_sem]
              · exact (hbe.trans (((Fr.refl (fun _ => False) wr).drewN _).below hbe.size (fun _ _ h => h))).trans (belowK_b (w := w) (Nat.le_refl _) _ D _ _ (by omega) (show (wr.drewN _).heap[D]? = _ from hdf) rfl rfl)
      case stop =>
        rintro D c pre V hD hpre h hK
        obtain ⟨rfl, hle, ⟨v, hv, hrow⟩, ⟨u, hu, hru⟩, hl, hk, hB⟩ := h hpre
        have hcase : pre.length = M.length ∨ (pre.length : Int) = leave := .inr hle
        have hrise := hT.rise
        clear hle h hT
        have hH1 := hk.hp hH0
        have hT : HT w Bt D leave v u pre V := ⟨hv, hrow, hu, hru, hl, hK, hB⟩
        have hat : ∀ j e, S[j]? = some e → j < pre.length → (pre.map (·.1))[j]? = some e.t ∧ (pre.map (·.2))[j]? = some e.x := by
          intro j e he hj
          obtain ⟨rest, hr⟩ := hpre
          have h1 : (itemsH S S.length)[j]? = some (e.t, e.x) := by
            unfold itemsH
            rw [List.take_length, List.getElem?_map, he]; rfl
          have h2 : pre[j]? = some (e.t, e.x) := by rw [← h1, ← hr, List.getElem?_append_left hj]
          exact ⟨by rw [List.getElem?_map, h2]; rfl, by rw [List.getElem?_map, h2]; rfl⟩
        have hPS : pre.length ≤ S.length := by
          have := hpre.length_le
          rw [itemsH_len S (Nat.le_refl _)] at this
          exact this
        obtain ⟨a1, c1, rfl⟩ := own_form hrow
        obtain ⟨a2, c2, rfl⟩ := own_form hru
        obtain ⟨P, hP⟩ : ∃ P, pre.length = P := ⟨_, rfl⟩
        obtain ⟨N, hN⟩ : ∃ N, M.length = N := ⟨_, rfl⟩
        have hSN : S.length = N := by rw [hS.length_eq, hN]
        have HL1 : Hid (Calls Try.prog 22 #[.pointer (some ⟨b, 0, none⟩)] V fun e w' => e = .returned (.int .i64 (N : Int)) ∧ V = w') := by rw [← hN]; exact unhide HL _ hH1
        rw [hP] at hPS hcase hT hat
        rw [hN] at hcase
        simp only [hN]
        have hb1 := hT.b1.cell
        have hb2 := hT.b2.cell
        have hb3 := hT.bl.cell
        have lt1 := hT.b1.lt
        have lt2 := hT.b2.lt
        have lt3 := hT.bl.lt
        have hST := hide (show ∃ (Mj : List (En Int)) (lv : Int), Hp V (w.heap.size + 1) b m Mj ∧ (S.drop 0).Perm Mj ∧ Mj.Pairwise (fun a b => a.k < b.k) ∧ HT w Bt D lv (.slice a1 P c1) (.slice a2 P c2) pre V from ⟨M, leave, hH1, by rw [List.drop_zero]; exact hS, hrise, hT⟩)
        have HAT := hide hat
        have HSN := hide hSN
        have HPP := hide hP
        have hPN : P ≤ N := by omega
        have hN22 : N ≤ 4194304 := by omega
        have HMt := hide hMt
        have HSP := hide hS
        have HO := hide hO
        clear hk hT hv hu hl hK hB hrow hru hat hSN hP hN hpre hH1 hPS hH0 hMt hS hO hSl
        have hq : ((P : Int) != (N : Int)) = false ∨ (((P : Int) != (N : Int)) = true ∧ (P : Int) = leave) := by
          rcases hcase with h | h
          · exact .inl (by simp [h])
          · by_cases e : P = N
            · exact .inl (by simp [e])
            · exact .inr ⟨by simpa using fun e' => e (by omega), h⟩
        clear hcase
        rcases hq with hq | ⟨hq, rfl⟩
        all_goals
          gi_wp2_with (refine ⟨trivial, ?_⟩; gi_at_call 22; refine (callsIn_wide.2 (unhide HL1)).mono ?_; rintro e w' ⟨rfl, rfl⟩)
          clear hq hb1 hb2 hb3 lt1 lt2 lt3 HL1
          gi_loopw [12] (fun i wr => ∃ (j : Nat) (Mj : List (En Int)) (lv : Int), j ≤ P ∧ i = .int .i64 j ∧ Hp wr (w.heap.size + 1) b m Mj ∧ (S.drop j).Perm Mj ∧ Mj.Pairwise (fun a b => a.k < b.k) ∧ HT w Bt D lv (.slice a1 P c1) (.slice a2 P c2) pre wr) (fun i _ => P - (intOf i).toNat)
          case atStart =>
            obtain ⟨Mj, lv, h1, h2, h3, h4⟩ := hST.out
            exact ⟨0, Mj, lv, by omega, rfl, h1, h2, h3, h4⟩
          case round =>
            clear hST
            obtain ⟨j, Mj, lv, hj, rfl, hHj, hpm, hri, hTj⟩ := hrel
            have hb1 := hTj.b1.cell
            have hb2 := hTj.b2.cell
            have lt1 := hTj.b1.lt
            have lt2 := hTj.b2.lt
            by_cases hlt : j < P
            · have hjS : j < S.length := by have := HSN.out; omega
              obtain ⟨e, he⟩ : ∃ e, S[j]? = some e := ⟨_, List.getElem?_eq_getElem hjS⟩
              obtain ⟨x1, x2⟩ := HAT.out j e he hlt
              have hdr : S.drop j = e :: S.drop (j + 1) := by
                rw [List.drop_eq_getElem_cons hjS]
                have := List.getElem?_eq_getElem hjS
                rw [he] at this
                rw [Option.some.inj this]
              rw [hdr] at hpm
              have hOj : (e :: S.drop (j + 1)).Pairwise (fun a b => lt3 a b) := by rw [← hdr]; exact HO.out.sublist (List.drop_sublist _ _)
              obtain ⟨hle, hp2, _⟩ := pop_step hri hpm hOj
              have hr2 : (del Mj e.k).Pairwise (fun a b => a.k < b.k) := hri.sublist List.filter_sublist
              have heM := HMt.out e (HSP.out.subset (List.mem_of_getElem? he))
              have HPOP := hide (gpop_yes hHj e hle 9223372036854775807 heM)
              obtain ⟨g1, d1, hv1, k1⟩ := own_cell hTj.r1 x1 (by rw [HPP.out]; exact hlt)
              obtain ⟨g2, d2, hv2, k2⟩ := own_cell hTj.r2 x2 (by rw [HPP.out]; exact hlt)
              simp only [Value.slice.injEq] at hv1 hv2
              obtain ⟨rfl, -, -⟩ := hv1
              obtain ⟨rfl, -, -⟩ := hv2
              have KC := hide (fun (V2 : World) (h2 : HT w Bt D lv (.slice (some ⟨g1, 0, none⟩) P c1) (.slice (some ⟨g2, 0, none⟩) P c2) pre V2) => (⟨own_cell h2.r1 x1 (by rw [HPP.out]; exact hlt), own_cell h2.r2 x2 (by rw [HPP.out]; exact hlt)⟩ : (∃ g cap, Value.slice (some ⟨g1, 0, none⟩) P c1 = .slice (some ⟨g, 0, none⟩) pre.length cap ∧ V2.cell? ⟨g, j, none⟩ = some (.int .i64 e.t)) ∧ ∃ g cap, Value.slice (some ⟨g2, 0, none⟩) P c2 = .slice (some ⟨g, 0, none⟩) pre.length cap ∧ V2.cell? ⟨g, j, none⟩ = some (.int .i64 e.x)))
              have hlt' : (j : Int) < (P : Int) := by omega
              have HP2 := hide hp2
              have HR2 := hide hr2
              have HTJ := hide hTj
              have et1 : (e.t != e.t) = false := by simp
              have ex1 : (e.x != e.x) = false := by simp
              clear hpm hri hdr hOj hle hp2 hr2 heM x1 x2 he hHj k1 k2 hTj hjS
              gi_wp2_with (refine ⟨trivial, ?_⟩; gi_at_call 18; refine (callsIn_wide.2 (unhide HPOP)).mono ?_; rintro r w2 ⟨rfl, hH2, hF2⟩; have hT2 := HTJ.out.h hF2; obtain ⟨⟨g3, d3, hw1, y1⟩, g4, d4, hw2, y2⟩ := KC.out _ hT2; simp only [Value.slice.injEq, Option.some.injEq, Addr.mk.injEq] at hw1 hw2; obtain ⟨⟨rfl, -⟩, -⟩ := hw1; obtain ⟨⟨rfl, -⟩, -⟩ := hw2; have z1 := hT2.b1.cell; have z2 := hT2.b2.cell; have zl1 := hT2.b1.lt; have zl2 := hT2.b2.lt)
              go_roundw
              case rel => exact ⟨j + 1, _, lv, by omega, by go_num, hH2, HP2.out, HR2.out, hT2⟩
              case measure => simp [intOf]; omega
            · obtain rfl : j = P := by omega
              have hlen : (Mj.length : Int) = (N : Int) - (j : Int) := by
                have h1 := hpm.length_eq
                rw [List.length_drop, HSN.out] at h1
                omega
              have HL2 : Hid (∀ q : Nat, Calls Try.prog 22 #[.pointer (some ⟨b, 0, none⟩)] (wr.drewN q) fun e w' => e = .returned (.int .i64 ((N : Int) - (j : Int))) ∧ wr.drewN q = w') := by
                rw [← hlen]
                exact fun q => glen (hHj.up (((Fr.refl (fun _ => False) wr).drewN q)))
              have hdf := hTj.df
              have hbe := hTj.be
              have hes : (((N : Int) - (j : Int)) == ((N : Int) - (j : Int))) = true := by simp
              clear hpm hri hHj hlen hTj
              gi_wp2
              refine wpIn_wide.2 ?_
              go_quiet ((go_at_call 22; first | exact quiet_one (unhide HL2 _) | exact quiet_plus (unhide HL2 _)))
              gi_wp2
              refine ⟨by simp, .inl ⟨_, _, rfl, run_takeDeferred (show (wr.drewN _).heap[D]? = _ from hdf), ?_⟩⟩
              refine ⟨.bool true, ?_, rfl, ?_⟩
              · simp [results, Try.f7, go_sem]
              · exact (hbe.trans (((Fr.refl (fun _ => False) wr).drewN _).below hbe.size (fun _ _ h => h))).trans (belowK_b (w := w) (Nat.le_refl _) _ D _ _ (by omega) (show (wr.drewN _).heap[D]? = _ from hdf) rfl rfl)

end Go.Proofs.Ytijiackjlgpgpaa
