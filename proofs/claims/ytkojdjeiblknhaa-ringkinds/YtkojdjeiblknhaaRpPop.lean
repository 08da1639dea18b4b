/-
  What Take and Pop of a ring of pairs do; each call in one contract.
-/
import Derived.Test.YtkojdjeiblknhaaRpTake
import Derived.Deep.DeepMust
namespace Go.Proofs.Ytkojdjeiblknhaa.Rp
open Go.RowKit
set_option linter.unusedVariables false
set_option maxRecDepth 8192

theorem set2_at {W W1 : World} {g i k : Nat} {x : Int × Int} {o : Obj} (hW : Hid (W = set2 W1 g i x)) (hk : k ≠ g) (h : W1.heap[k]? = some o) : W.heap[k]? = some o := by
  rw [unhide hW]; exact (set2_fr W1 g i x).blk h hk

set_option maxHeartbeats 2000000 in
theorem take_none {w : World} {b g S f : Nat} (h : IsR w b g S f []) :
    Calls Try.prog 35 #[.pointer (some ⟨b, 0, none⟩)] w fun e w' => e = .returned (.tuple #[.agg #[.int .i64 0, .int .i64 0], .bool false]) ∧ IsR w' b g S f [] ∧ Fr (fun _ => False) w w' := by
  go_enter Try.func35, Try.ntmps35
  go_wp2_with (first | (go_at_call 53; refine (at_none (h.al _) 0 (.inr (by simp))).mono ?_; rintro e w2 ⟨rfl, hF2⟩; have q0 := hF2.blk (blk_new w (.cells #[.int .i64 0, .int .i64 0] 54)) (fun h => h); have z0 := cell_at q0 0; have z1 := cell_at q0 1; have y0 := free_at q0 0; have y1 := free_at q0 1; simp at z0 z1; have hz := hF2.size; simp at hz; have hz' : w.heap.size < w2.heap.size := (by omega); have HF2 := hide hF2; have Q0 := hide q0; clear hF2 q0))
  have hF : Fr (fun _ => False) w w2 := ((Fr.refl _ w).alloc _).trans (unhide HF2) (fun _ _ h => h) (fun _ _ h => h)
  have hq : PrAt w2 w.heap.size 0 0 := unhide Q0
  have hFF : Fr (fun _ => False) w (((w2.setCell ⟨w.heap.size, 0, none⟩ (.int .i64 0)).setCell ⟨w.heap.size, 1, none⟩ (.int .i64 0)).alloc (.cells #[.int .i64 0, .int .i64 0] 54)) := ((hF.setAt w.heap.size 0 _ (.inl (Nat.le_refl _))).setAt w.heap.size 1 _ (.inl (Nat.le_refl _))).alloc _
  exact bodyPost_ret (results_pr2 rfl _ _ _ 0 0 rfl (blk_alloc (hq.set 0 0))) rfl ⟨rfl, h.fr hFF (fun h => h) (fun h => h), hFF⟩

set_option maxHeartbeats 2000000 in
theorem pop_none {w : World} {b g S f : Nat} (h : IsR w b g S f []) :
    Calls Try.prog 37 #[.pointer (some ⟨b, 0, none⟩)] w fun e w' => e = .returned (.tuple #[.agg #[.int .i64 0, .int .i64 0], .bool false]) ∧ IsR w' b g S f [] ∧ Fr (fun _ => False) w w' := by
  go_enter Try.func37, Try.ntmps37
  go_wp2_with (first | (go_at_call 39; refine (len_calls (h.al _)).mono ?_; rintro e w1 ⟨rfl, rfl⟩) | (go_at_call 53; refine (at_none (h.al _) (-1) (.inl (by omega))).mono ?_; rintro e w2 ⟨rfl, hF2⟩; have q0 := hF2.blk (blk_new w (.cells #[.int .i64 0, .int .i64 0] 54)) (fun h => h); have z0 := cell_at q0 0; have z1 := cell_at q0 1; have y0 := free_at q0 0; have y1 := free_at q0 1; simp at z0 z1; have hz := hF2.size; simp at hz; have hz' : w.heap.size < w2.heap.size := (by omega); have HF2 := hide hF2; have Q0 := hide q0; clear hF2 q0))
  have hF : Fr (fun _ => False) w w2 := ((Fr.refl _ w).alloc _).trans (unhide HF2) (fun _ _ h => h) (fun _ _ h => h)
  have hq : PrAt w2 w.heap.size 0 0 := unhide Q0
  have hFF : Fr (fun _ => False) w (((w2.setCell ⟨w.heap.size, 0, none⟩ (.int .i64 0)).setCell ⟨w.heap.size, 1, none⟩ (.int .i64 0)).alloc (.cells #[.int .i64 0, .int .i64 0] 54)) := ((hF.setAt w.heap.size 0 _ (.inl (Nat.le_refl _))).setAt w.heap.size 1 _ (.inl (Nat.le_refl _))).alloc _
  exact bodyPost_ret (results_pr2 rfl _ _ _ 0 0 rfl (blk_alloc (hq.set 0 0))) rfl ⟨rfl, h.fr hFF (fun h => h) (fun h => h), hFF⟩

set_option maxHeartbeats 4000000 in
theorem take_some {w : World} {b g S f : Nat} {x y : Int} {l : List (Int × Int)} (h : IsR w b g S f ((x, y) :: l)) :
    Calls Try.prog 35 #[.pointer (some ⟨b, 0, none⟩)] w fun e w' => e = .returned (.tuple #[.agg #[.int .i64 x, .int .i64 y], .bool true]) ∧ IsR w' b g S ((f + 1) % S) l ∧ FrR b g w w' := by
  have hlt := h.lt
  have hne := h.ne
  have hne' : g ≠ b := fun e => hne e.symm
  have hpos := h.pos
  have hlen := h.len
  have hmost := h.most
  simp only [List.length_cons] at hlen
  obtain ⟨j, hj⟩ : ∃ j, (f + 1) % S = j := ⟨_, rfl⟩
  obtain ⟨i, hi⟩ : ∃ i, (f + 0) % S = i := ⟨_, rfl⟩
  have HI := hide hi
  have HJ := hide hj
  have HX : Hid (((x, y) :: l)[0]? = some (x, y)) := hide (by simp)
  have hbq : b ≠ w.heap.size := by omega
  have hqb : w.heap.size ≠ b := by omega
  clear hi hj
  go_enter Try.func35, Try.ntmps35
  go_wp2_with (first
    | (go_at_call 53; refine (at_some (h.al _) 0 x y (unhide HX)).mono ?_; rintro e w2 ⟨rfl, hF2⟩; have hz := hF2.size; simp at hz; have hz' : w.heap.size < w2.heap.size := (by omega); have HF2 := hide hF2; have H2 := (h.al _).fr hF2 (fun h => h) (fun h => h); have hq := hF2.blk (blk_new w (.cells #[.int .i64 0, .int .i64 0] 54)) (fun h => h); have HQ := hide hq; clear hF2 hq)
    | (go_at_call 54; refine (wipe_calls (H2.al _) 0 i (by omega) (unhide HI)).mono ?_; rintro e w4 ⟨rfl, W1, hW, hF4⟩; have hb4 := set2_at hW hne (hF4.blk (H2.al _).blk (fun h => h)); have hq4 := set2_at hW (by omega) (hF4.blk (blk_new w2 (.cells #[.int .i64 x, .int .i64 y] 54)) (fun h => h)); have hq2 := set2_at hW (by omega) (hF4.blk (blk_alloc (unhide HQ)) (fun h => h)); have c0 := cell_at hb4 0; have c1 := cell_at hb4 1; have c2 := cell_at hb4 2; have f1 := free_at hb4 1; have f2 := free_at hb4 2; have d0 := cell_at hq4 0; have d1 := cell_at hq4 1; have r0 := cell_at hq2 0; have r1 := cell_at hq2 1; have s0 := free_at hq2 0; have s1 := free_at hq2 1; simp at c0 c1 c2 d0 d1 r0 r1; have HF4 := hide hF4; have HB4 := hide hb4; have HQ2 := hide hq2; clear hF4 hb4 hq4 hq2)
    | (go_at_call 50; refine (slot_hd (unhide HB4) hpos hmost 1 (by omega) HJ).mono ?_; rintro e w5 ⟨rfl, nq3, rfl⟩))
  have H1 := (H2.al (.cells #[.int .i64 x, .int .i64 y] 54)).fr (unhide HF4) (fun h => h) (fun h => h)
  have hP := H1.take (0, 0)
  rw [unhide HI, unhide HJ, ← unhide hW] at hP
  have hP2 : IsR (((w4.drewN nq3).setCell ⟨b, 1, none⟩ (.int .i64 (j : Int))).setCell ⟨b, 2, none⟩ (.int .i64 (l.length : Int))) b g S j l := hP.same rfl
  have p2 : PrAt (((w4.drewN nq3).setCell ⟨b, 1, none⟩ (.int .i64 (j : Int))).setCell ⟨b, 2, none⟩ (.int .i64 (l.length : Int))) w.heap.size 0 0 := (Fr.set1 _ b 2 _).blk ((Fr.set1 _ b 1 _).blk (w := w4.drewN nq3) (unhide HQ2) hqb) hqb
  have h5 : FrR b g w w4 := by
    rw [unhide hW]
    exact ((((Fr.refl (fun k => k = b ∨ k = g) w).alloc _).trans (unhide HF2) (fun _ _ h => h) (fun _ _ h => h.elim)).alloc (.cells #[.int .i64 x, .int .i64 y] 54) |>.trans (unhide HF4) (fun _ _ h => h) (fun _ _ h => h.elim)).trans (set2_fr W1 g i (0, 0)) (fun _ _ h => h) (fun _ _ h => .inr h)
  have h6 : FrR b g w (((w4.drewN nq3).setCell ⟨b, 1, none⟩ (.int .i64 (j : Int))).setCell ⟨b, 2, none⟩ (.int .i64 (l.length : Int))) := ((h5.drewN nq3).setAt b 1 _ (.inr (.inl rfl))).setAt b 2 _ (.inr (.inl rfl))
  have hgq : g ≠ w.heap.size := by omega
  rw [unhide HJ]
  refine bodyPost_ret (results_pr2 rfl _ _ _ x y rfl (p2.set x y)) rfl ⟨rfl, ?_, (h6.setAt w.heap.size 0 _ (.inl (Nat.le_refl _))).setAt w.heap.size 1 _ (.inl (Nat.le_refl _))⟩
  exact (hP2.fr (Fr.set1 _ w.heap.size 0 (.int .i64 x)) hbq hgq).fr (Fr.set1 _ w.heap.size 1 (.int .i64 y)) hbq hgq

set_option maxHeartbeats 4000000 in
theorem pop_some {w : World} {b g S f : Nat} {x y : Int} {l : List (Int × Int)} (h : IsR w b g S f (l ++ [(x, y)])) :
    Calls Try.prog 37 #[.pointer (some ⟨b, 0, none⟩)] w fun e w' => e = .returned (.tuple #[.agg #[.int .i64 x, .int .i64 y], .bool true]) ∧ IsR w' b g S f l ∧ FrR b g w w' := by
  have hlt := h.lt
  have hne := h.ne
  have hne' : g ≠ b := fun e => hne e.symm
  have hpos := h.pos
  have hlen := h.len
  have hmost := h.most
  simp only [List.length_append, List.length_singleton] at hlen
  obtain ⟨j, hj⟩ : ∃ j, (f + 1) % S = j := ⟨_, rfl⟩
  obtain ⟨i, hi⟩ : ∃ i, (f + l.length) % S = i := ⟨_, rfl⟩
  have HI := hide hi
  have HJ := hide hj
  have HX : Hid ((l ++ [(x, y)])[l.length]? = some (x, y)) := hide (by simp)
  have hbq : b ≠ w.heap.size := by omega
  have hqb : w.heap.size ≠ b := by omega
  clear hi hj
  go_enter Try.func37, Try.ntmps37
  go_wp2_with (first
    | (go_at_call 39; refine (len_calls (h.al _)).mono ?_; rintro e w1 ⟨rfl, rfl⟩)
    | (go_at_call 53; refine (at_some (h.al _) l.length x y (unhide HX)).mono ?_; rintro e w2 ⟨rfl, hF2⟩; have hz := hF2.size; simp at hz; have hz' : w.heap.size < w2.heap.size := (by omega); have HF2 := hide hF2; have H2 := (h.al _).fr hF2 (fun h => h) (fun h => h); have hq := hF2.blk (blk_new w (.cells #[.int .i64 0, .int .i64 0] 54)) (fun h => h); have HQ := hide hq; clear hF2 hq)
    | (go_at_call 54; refine (wipe_calls (H2.al _) l.length i (by omega) (unhide HI)).mono ?_; rintro e w4 ⟨rfl, W1, hW, hF4⟩; have hb4 := set2_at hW hne (hF4.blk (H2.al _).blk (fun h => h)); have hq4 := set2_at hW (by omega) (hF4.blk (blk_new w2 (.cells #[.int .i64 x, .int .i64 y] 54)) (fun h => h)); have hq2 := set2_at hW (by omega) (hF4.blk (blk_alloc (unhide HQ)) (fun h => h)); have c0 := cell_at hb4 0; have c1 := cell_at hb4 1; have c2 := cell_at hb4 2; have f1 := free_at hb4 1; have f2 := free_at hb4 2; have d0 := cell_at hq4 0; have d1 := cell_at hq4 1; have r0 := cell_at hq2 0; have r1 := cell_at hq2 1; have s0 := free_at hq2 0; have s1 := free_at hq2 1; simp at c0 c1 c2 d0 d1 r0 r1; have HF4 := hide hF4; have HB4 := hide hb4; have HQ2 := hide hq2; clear hF4 hb4 hq4 hq2))
  have H1 := (H2.al (.cells #[.int .i64 x, .int .i64 y] 54)).fr (unhide HF4) (fun h => h) (fun h => h)
  have hP := H1.pop (0, 0)
  rw [unhide HI, ← unhide hW] at hP
  have hP2 : IsR (w4.setCell ⟨b, 2, none⟩ (.int .i64 (l.length : Int))) b g S f l := hP.same rfl
  have p2 : PrAt (w4.setCell ⟨b, 2, none⟩ (.int .i64 (l.length : Int))) w.heap.size 0 0 := (Fr.set1 _ b 2 _).blk (unhide HQ2) hqb
  have h5 : FrR b g w w4 := by
    rw [unhide hW]
    exact ((((Fr.refl (fun k => k = b ∨ k = g) w).alloc _).trans (unhide HF2) (fun _ _ h => h) (fun _ _ h => h.elim)).alloc (.cells #[.int .i64 x, .int .i64 y] 54) |>.trans (unhide HF4) (fun _ _ h => h) (fun _ _ h => h.elim)).trans (set2_fr W1 g i (0, 0)) (fun _ _ h => h) (fun _ _ h => .inr h)
  have h6 : FrR b g w (w4.setCell ⟨b, 2, none⟩ (.int .i64 (l.length : Int))) := h5.setAt b 2 _ (.inr (.inl rfl))
  have hgq : g ≠ w.heap.size := by omega
  skip
  refine bodyPost_ret (results_pr2 rfl _ _ _ x y rfl (p2.set x y)) rfl ⟨rfl, ?_, (h6.setAt w.heap.size 0 _ (.inl (Nat.le_refl _))).setAt w.heap.size 1 _ (.inl (Nat.le_refl _))⟩
  exact (hP2.fr (Fr.set1 _ w.heap.size 0 (.int .i64 x)) hbq hgq).fr (Fr.set1 _ w.heap.size 1 (.int .i64 y)) hbq hgq

/-- a ring whose first slot isn't told -/
def Rg (w : World) (b g S : Nat) (l : List (Int × Int)) : Prop := ∃ f, IsR w b g S f l

theorem Rg.fr {P : Nat → Prop} {w w' : World} {b g S : Nat} {l : List (Int × Int)} (h : Rg w b g S l) (hf : Fr P w w') (hb : ¬ P b) (hg : ¬ P g) : Rg w' b g S l := h.elim fun f h => ⟨f, h.fr hf hb hg⟩
theorem Rg.drewN {w : World} {b g S : Nat} {l : List (Int × Int)} (h : Rg w b g S l) (n : Nat) : Rg (w.drewN n) b g S l := h.elim fun f h => ⟨f, h.drewN n⟩
theorem Rg.len {w : World} {b g S : Nat} {l : List (Int × Int)} (h : Rg w b g S l) : l.length ≤ S := h.elim fun f h => h.len
theorem Rg.most {w : World} {b g S : Nat} {l : List (Int × Int)} (h : Rg w b g S l) : S ≤ 4096 := h.elim fun f h => h.most


theorem rput_ok {w : World} {b g S : Nat} {l : List (Int × Int)} (h : Rg w b g S l) (hl : l.length < S) (x y : Int) :
    Calls Try.prog 31 #[.pointer (some ⟨b, 0, none⟩), .agg #[.int .i64 x, .int .i64 y]] w fun e w' => e = .returned (.int .i64 0) ∧ Rg w' b g S (l ++ [(x, y)]) ∧ FrR b g w w' := by
  obtain ⟨f, h⟩ := h
  exact (put_ok h hl x y).mono fun e w' ⟨h1, h2, h3⟩ => ⟨h1, ⟨_, h2⟩, h3⟩

theorem rput_full {w : World} {b g S : Nat} {l : List (Int × Int)} (h : Rg w b g S l) (hl : ¬ l.length < S) (x y : Int) :
    Calls Try.prog 31 #[.pointer (some ⟨b, 0, none⟩), .agg #[.int .i64 x, .int .i64 y]] w fun e w' => e = .returned (.int .i64 7) ∧ Rg w' b g S l ∧ FrR b g w w' := by
  obtain ⟨f, h⟩ := h
  exact (put_full h (by have := h.len; omega) x y).mono fun e w' ⟨h1, h2, h3⟩ => ⟨h1, ⟨_, h2⟩, h3⟩

theorem rpush_ok {w : World} {b g S : Nat} {l : List (Int × Int)} (h : Rg w b g S l) (hl : l.length < S) (x y : Int) :
    Calls Try.prog 33 #[.pointer (some ⟨b, 0, none⟩), .agg #[.int .i64 x, .int .i64 y]] w fun e w' => e = .returned (.int .i64 0) ∧ Rg w' b g S ((x, y) :: l) ∧ FrR b g w w' := by
  obtain ⟨f, h⟩ := h
  exact (push_ok h hl x y).mono fun e w' ⟨h1, h2, h3⟩ => ⟨h1, ⟨_, h2⟩, h3⟩

theorem rpush_full {w : World} {b g S : Nat} {l : List (Int × Int)} (h : Rg w b g S l) (hl : ¬ l.length < S) (x y : Int) :
    Calls Try.prog 33 #[.pointer (some ⟨b, 0, none⟩), .agg #[.int .i64 x, .int .i64 y]] w fun e w' => e = .returned (.int .i64 7) ∧ Rg w' b g S l ∧ FrR b g w w' := by
  obtain ⟨f, h⟩ := h
  exact (push_full h (by have := h.len; omega) x y).mono fun e w' ⟨h1, h2, h3⟩ => ⟨h1, ⟨_, h2⟩, h3⟩

theorem rtake_some {w : World} {b g S : Nat} {x y : Int} {l : List (Int × Int)} (h : Rg w b g S ((x, y) :: l)) :
    Calls Try.prog 35 #[.pointer (some ⟨b, 0, none⟩)] w fun e w' => e = .returned (.tuple #[.agg #[.int .i64 x, .int .i64 y], .bool true]) ∧ Rg w' b g S l ∧ FrR b g w w' := by
  obtain ⟨f, h⟩ := h
  exact (take_some h).mono fun e w' ⟨h1, h2, h3⟩ => ⟨h1, ⟨_, h2⟩, h3⟩

theorem rtake_none {w : World} {b g S : Nat}  (h : Rg w b g S []) :
    Calls Try.prog 35 #[.pointer (some ⟨b, 0, none⟩)] w fun e w' => e = .returned (.tuple #[.agg #[.int .i64 0, .int .i64 0], .bool false]) ∧ Rg w' b g S [] ∧ FrR b g w w' := by
  obtain ⟨f, h⟩ := h
  exact (take_none h).mono fun e w' ⟨h1, h2, h3⟩ => ⟨h1, ⟨_, h2⟩, h3.mono (fun _ _ h => h.elim)⟩

theorem rpop_some {w : World} {b g S : Nat} {x y : Int} {l : List (Int × Int)} (h : Rg w b g S (l ++ [(x, y)])) :
    Calls Try.prog 37 #[.pointer (some ⟨b, 0, none⟩)] w fun e w' => e = .returned (.tuple #[.agg #[.int .i64 x, .int .i64 y], .bool true]) ∧ Rg w' b g S l ∧ FrR b g w w' := by
  obtain ⟨f, h⟩ := h
  exact (pop_some h).mono fun e w' ⟨h1, h2, h3⟩ => ⟨h1, ⟨_, h2⟩, h3⟩

theorem rpop_none {w : World} {b g S : Nat}  (h : Rg w b g S []) :
    Calls Try.prog 37 #[.pointer (some ⟨b, 0, none⟩)] w fun e w' => e = .returned (.tuple #[.agg #[.int .i64 0, .int .i64 0], .bool false]) ∧ Rg w' b g S [] ∧ FrR b g w w' := by
  obtain ⟨f, h⟩ := h
  exact (pop_none h).mono fun e w' ⟨h1, h2, h3⟩ => ⟨h1, ⟨_, h2⟩, h3.mono (fun _ _ h => h.elim)⟩

theorem rlen {w : World} {b g S n : Nat} {l : List (Int × Int)} (h : Rg w b g S l) (hn : Hid (l.length = n)) :
    Calls Try.prog 39 #[.pointer (some ⟨b, 0, none⟩)] w fun e w' => e = .returned (.int .i64 (n : Int)) ∧ w = w' := by
  obtain ⟨f, h⟩ := h
  rw [← hn.out]; exact len_calls h

theorem rnew (n : Int) (w : World) :
    Calls Try.prog 29 #[.int .i64 n] w fun e w' => e = .returned (.pointer (some ⟨w.heap.size + 1, 0, none⟩)) ∧ Rg w' (w.heap.size + 1) w.heap.size (clamp n) [] ∧ Fr (fun _ => False) w w' :=
  (rnew_calls n w).mono fun e w' ⟨h1, h2, h3⟩ => ⟨h1, ⟨0, h2⟩, h3⟩


end Go.Proofs.Ytkojdjeiblknhaa.Rp
