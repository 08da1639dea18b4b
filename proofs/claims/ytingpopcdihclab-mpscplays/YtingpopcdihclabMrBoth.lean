/-
  Both queues side by side: a Begin, a Step, what they give.
-/
import Derived.Test.YtingpopcdihclabMrRel
namespace Go.Proofs.Ytingpopcdihclab
open Go.RowKit
set_option linter.unusedVariables false
set_option maxRecDepth 8192

/-- a block of the document's queue -/
def NR (w : World) (k : Nat) : Prop := (∃ cs, w.heap[k]? = some (.cells cs 2 (0, 0))) ∨ (∃ cs, w.heap[k]? = some (.cells cs 41 (0, 0))) ∨ ∃ cs, w.heap[k]? = some (.cells cs 45 (0, 0))
abbrev FrR (lo : Nat) (w w' : World) := Fr (fun k => lo ≤ k ∧ NR w k) w w'

theorem IsR.nr {w : World} {lo b h gv gn cv cn : Nat} {R : Rf} (m : IsR w lo b h gv gn cv cn R) {k : Nat} (hk : k = b ∨ k = h ∨ k = gv ∨ k = gn) : lo ≤ k ∧ NR w k := by
  obtain ⟨l1, l2, l3, l4⟩ := m.los
  rcases hk with rfl | rfl | rfl | rfl
  · exact ⟨l1, .inr (.inr ⟨_, m.blk⟩)⟩
  · obtain ⟨cs, h1, _⟩ := m.ths
    exact ⟨l2, .inr (.inl ⟨cs, h1⟩)⟩
  · obtain ⟨cs, h1, _⟩ := m.rv
    exact ⟨l3, .inl ⟨cs, h1⟩⟩
  · obtain ⟨cs, h1, _⟩ := m.rn
    exact ⟨l4, .inl ⟨cs, h1⟩⟩
theorem FrR4.r {w w' : World} {lo b h gv gn cv cn : Nat} {R : Rf} (m : IsR w lo b h gv gn cv cn R) (hf : FrR4 b h gv gn w w') : FrR lo w w' := hf.mono (fun _ _ hk => m.nr hk)
theorem nonr {w : World} {k lo : Nat} {cs : Array Value} {T : TypeId} (h : w.heap[k]? = some (.cells cs T (0, 0))) (h1 : T ≠ 2) (h2 : T ≠ 41) (h3 : T ≠ 45) : ¬ (lo ≤ k ∧ NR w k) := by
  rintro ⟨_, ⟨c, e⟩ | ⟨c, e⟩ | ⟨c, e⟩⟩
  · rw [h] at e; cases e; exact h1 rfl
  · rw [h] at e; cases e; exact h2 rfl
  · rw [h] at e; cases e; exact h3 rfl
theorem nqr {w : World} {k lo lo2 : Nat} (h : lo ≤ k ∧ NQ w k) : ¬ (lo2 ≤ k ∧ NR w k) := by
  rcases h with ⟨_, ⟨c, e⟩ | ⟨c, e⟩⟩
  · exact nonr e (by decide) (by decide) (by decide)
  · exact nonr e (by decide) (by decide) (by decide)

/-- the document's queue at block b tells the same record -/
def MM (w : World) (lo b : Nat) (q : Qu) : Prop := ∃ h gv gn cv cn, IsR w lo b h gv gn cv cn (rf q)

theorem MM.fr {P : Nat → Prop} {w w' : World} {lo b : Nat} {q : Qu} (m : MM w lo b q) (hf : Fr P w w') (hP : ∀ k, lo ≤ k ∧ NR w k → ¬ P k) : MM w' lo b q := by
  obtain ⟨h, gv, gn, cv, cn, m⟩ := m
  exact ⟨h, gv, gn, cv, cn, m.fr hf (hP _ (m.nr (.inl rfl))) (hP _ (m.nr (.inr (.inl rfl)))) (hP _ (m.nr (.inr (.inr (.inl rfl))))) (hP _ (m.nr (.inr (.inr (.inr rfl)))))⟩
theorem MM.q {w w' : World} {lo lo2 b : Nat} {q : Qu} (m : MM w lo b q) (hf : FrQ lo2 w w') : MM w' lo b q := m.fr hf (fun k hk hq => nqr hq hk)
theorem MM.al {w : World} {lo b : Nat} {q : Qu} (m : MM w lo b q) (o : Obj) : MM (w.alloc o) lo b q := m.fr ((Fr.refl (fun _ => False) w).alloc o) (fun _ _ h => h)
theorem MM.same {w w' : World} {lo b : Nat} {q : Qu} (m : MM w lo b q) (e : w'.heap = w.heap) : MM w' lo b q := by
  obtain ⟨h, gv, gn, cv, cn, m⟩ := m
  exact ⟨h, gv, gn, cv, cn, m.same e⟩
theorem Mp.r {w w' : World} {lo lo2 b : Nat} {q : Qu} (m : Mp w lo b q) (hf : FrR lo2 w w') : Mp w' lo b q := m.fr hf (fun k hk hr => nqr hk hr)

theorem nodup_le : ∀ {A B : List Nat}, A.Nodup → (∀ x, x ∈ A → x ∈ B) → A.length ≤ B.length
  | [], _, _, _ => Nat.zero_le _
  | a :: A, B, h, s => by
    obtain ⟨h1, h2⟩ := List.nodup_cons.1 h
    have ha := s a (by simp)
    have := nodup_le (B := B.erase a) h2 (fun x hx => (List.mem_erase_of_ne (fun e : x = a => h1 (by rw [← e]; exact hx))).2 (s x (List.mem_cons_of_mem _ hx)))
    rw [List.length_erase_of_mem ha] at this
    have := List.length_pos_of_mem ha
    simp
    omega

/-- what holds of both -/
structure Bo (q : Qu) (R : List Nat) : Prop where
  lin : Lin q R
  nm : Nm q
  len : q.ids.length ≤ 65537

/-- a Begin of both -/
theorem begin_both {q : Qu} {R : List Nat} (B : Bo q R) (n v : Int) : ∃ er : Int, ∀ (w : World) (lo b : Nat), Mp w lo b q → Calls Try.prog 12 #[.pointer (some ⟨b, 0, none⟩), .int .i64 n, .int .i64 v] w fun e w' =>
    ∃ q', e = .returned (.int .i64 er) ∧ Mp w' lo b q' ∧ FrQ lo w w' ∧ Bo q' R ∧
      Hid (∀ (w1 : World) (lo2 b2 : Nat), MM w1 lo2 b2 q → Calls Try.prog 13 #[.pointer (some ⟨b2, 0, none⟩), .int .i64 n, .int .i64 v] w1 fun e w' => e = .returned (.int .i64 er) ∧ MM w' lo2 b2 q' ∧ FrR lo2 w1 w') := by
  by_cases hn : 0 ≤ n ∧ n < 8
  · obtain ⟨k, rfl⟩ : ∃ k : Nat, n = (k : Int) := ⟨n.toNat, by omega⟩
    have hk : k < 8 := by omega
    rcases Nat.eq_zero_or_pos (q.th k).pc with hp | hp
    · have hz := B.lin.idle k hp
      have hon : ((rf q).th k) = Rt.zero := by show tI q (q.th k) = _; rw [hz]; rfl
      by_cases hk0 : k = 0
      · subst hk0
        refine ⟨0, fun w lo b m => (mbegin0 m hz v).mono fun e w' ⟨h1, h2, h3⟩ => ⟨_, h1, h2, h3, ⟨B.lin.beg0, B.nm.set (fun x e => (by cases e)), B.len⟩, hide fun w1 lo2 b2 ⟨h, gv, gn, cv, cn, m1⟩ => ?_⟩⟩
        refine (rbegin_take m1 hon v).mono fun e w' ⟨g1, g2, g3⟩ => ⟨g1, ⟨h, gv, gn, cv, cn, ?_⟩, FrR4.r m1 g3⟩
        rw [rf_set]
        exact g2
      · by_cases hl : q.ids.length = 65537
        · refine ⟨3, fun w lo b m => (begin_long m.is hk hk0 hp hl v).mono fun e w' ⟨h1, h2⟩ => ⟨q, h1, h2 ▸ m, h2 ▸ Fr.refl _ _, B, hide fun w1 lo2 b2 mm => ?_⟩⟩
          obtain ⟨h, gv, gn, cv, cn, m1⟩ := mm
          exact (rbegin_long m1 hk (by omega) (by rw [hon]; rfl) (by show (q.ids.map q.v).length = _; rw [List.length_map]; exact hl) v).mono fun e w' ⟨g1, g2⟩ => ⟨g1, g2 ▸ ⟨h, gv, gn, cv, cn, m1⟩, g2 ▸ Fr.refl _ _⟩
        · have hl2 : q.ids.length < 65537 := by have := B.len; omega
          refine ⟨0, fun w lo b m => (mbegin m hk hk0 hz hl2 v).mono fun e w' ⟨x, hx, h1, h2, h3⟩ => ⟨_, h1, h2, h3, ⟨B.lin.beg m.wf hx hk0 hz v, ?_, ?_⟩, hide fun w1 lo2 b2 mm => ?_⟩⟩
          · refine (B.nm.born m.wf hx v).set (fun y e => ?_)
            cases e
            show 0 < (q.ids ++ [x]).idxOf x
            rw [idx_new hx]
            exact List.length_pos_of_mem m.wf.head
          · show (q.ids ++ [x]).length ≤ _
            simp
            omega
          · obtain ⟨h, gv, gn, cv, cn, m1⟩ := mm
            refine (rbegin_put m1 hk (by omega) hon (by show (q.ids.map q.v).length < _; rw [List.length_map]; exact hl2) (by show (q.ids.map _).length = (q.ids.map _).length; rw [List.length_map, List.length_map]) v).mono fun e w' ⟨gv', gn', cv', cn', g1, g2, g3⟩ => ⟨g1, ⟨h, gv', gn', cv', cn', ?_⟩, FrR4.r m1 g3⟩
            rw [rf_set, rf_born m.wf hx]
            have e : tI (q.born x v) ⟨1, some x, none⟩ = ⟨true, 0, (rf q).V.length, 0⟩ := by
              show (⟨true, 0, (q.ids ++ [x]).idxOf x, 0⟩ : Rt) = ⟨true, 0, (q.ids.map q.v).length, 0⟩
              rw [idx_new hx, List.length_map]
            rw [e]
            exact g2
    · have hon : ((rf q).th k).on = true := by show decide (0 < (q.th k).pc) = true; exact decide_eq_true hp
      refine ⟨14, fun w lo b m => (begin_busy m.is hk hp v).mono fun e w' ⟨h1, h2⟩ => ⟨q, h1, h2 ▸ m, h2 ▸ Fr.refl _ _, B, hide fun w1 lo2 b2 mm => ?_⟩⟩
      obtain ⟨h, gv, gn, cv, cn, m1⟩ := mm
      exact (rbegin_busy m1 hk hon v).mono fun e w' ⟨g1, g2⟩ => ⟨g1, g2 ▸ ⟨h, gv, gn, cv, cn, m1⟩, g2 ▸ Fr.refl _ _⟩
  · refine ⟨1, fun w lo b m => (begin_out m.is hn v).mono fun e w' ⟨h1, h2⟩ => ⟨q, h1, h2 ▸ m, h2 ▸ Fr.refl _ _, B, hide fun w1 lo2 b2 mm => ?_⟩⟩
    obtain ⟨h, gv, gn, cv, cn, m1⟩ := mm
    exact (rbegin_out m1 hn v).mono fun e w' ⟨g1, g2⟩ => ⟨g1, g2 ▸ ⟨h, gv, gn, cv, cn, m1⟩, g2 ▸ Fr.refl _ _⟩

/-- a Step of both -/
theorem step_both {q : Qu} {R : List Nat} (B : Bo q R) (W : Wf q) (n : Int) : ∃ (er : Int) (y : Qn) (q' : Qu) (R' : List Nat), Bo q' R' ∧
    (∀ (w : World) (lo b : Nat), Mp w lo b q → Calls Try.prog 14 #[.pointer (some ⟨b, 0, none⟩), .int .i64 n] w fun e w' => e = .returned (.tuple #[qnV y, .int .i64 er]) ∧ Mp w' lo b q' ∧ FrQ lo w w') ∧
    (∀ (w : World) (lo b : Nat), MM w lo b q → Calls Try.prog 15 #[.pointer (some ⟨b, 0, none⟩), .int .i64 n] w fun e w' => e = .returned (.tuple #[qnV y, .int .i64 er]) ∧ MM w' lo b q' ∧ FrR lo w w') := by
  by_cases hn : 0 ≤ n ∧ n < 8
  · obtain ⟨k, rfl⟩ : ∃ k : Nat, n = (k : Int) := ⟨n.toNat, by omega⟩
    have hk : k < 8 := by omega
    rcases Nat.eq_zero_or_pos (q.th k).pc with hp | hp
    · have hon : ((rf q).th k).on = false := by show decide (0 < (q.th k).pc) = false; exact decide_eq_false (by omega)
      refine ⟨13, Qn.none, q, R, B, fun w lo b m => (step_idle m.is hk hp).mono fun e w' ⟨h1, h2, h3⟩ => ⟨h1, ⟨h2, m.wf⟩, FrI.q m.is h3⟩, fun w lo b mm => ?_⟩
      obtain ⟨h, gv, gn, cv, cn, m1⟩ := mm
      exact (rstep_idle m1 hk hon).mono fun e w' ⟨g1, g2, g3⟩ => ⟨g1, ⟨h, gv, gn, cv, cn, g2⟩, FrR4.r m1 g3⟩
    · obtain ⟨R', L', E⟩ := lin_step B.lin W hp
      refine ⟨0, _, _, R', ⟨L', B.nm.stp W hp, by rw [E.rest.2.1]; exact B.len⟩, fun w lo b m => mstep m hk hp, fun w lo b mm => ?_⟩
      obtain ⟨h, gv, gn, cv, cn, m1⟩ := mm
      exact (rm_step m1 W B.nm hk hp).mono fun e w' ⟨g1, g2, g3⟩ => ⟨g1, ⟨h, gv, gn, cv, cn, g2⟩, FrR4.r m1 g3⟩
  · refine ⟨1, Qn.none, q, R, B, fun w lo b m => (step_out m.is hn).mono fun e w' ⟨h1, h2, h3⟩ => ⟨h1, ⟨h2, m.wf⟩, FrI.q m.is h3⟩, fun w lo b mm => ?_⟩
    obtain ⟨h, gv, gn, cv, cn, m1⟩ := mm
    exact (rstep_out m1 hn).mono fun e w' ⟨g1, g2, g3⟩ => ⟨g1, ⟨h, gv, gn, cv, cn, g2⟩, FrR4.r m1 g3⟩

/-- is a thread at work? -/
theorem busy_both {q : Qu} (n : Int) : ∃ bz : Bool, ((n < 0 ∧ bz = false) ∨ (0 ≤ n ∧ 8 ≤ n ∧ bz = false) ∨ (0 ≤ n ∧ n < 8 ∧ ∃ k : Nat, k < 8 ∧ n = (k : Int) ∧ bz = decide (0 < (q.th k).pc))) ∧
    Hid (∀ (w : World) (lo b : Nat), Mp w lo b q → Calls Try.prog 16 #[.pointer (some ⟨b, 0, none⟩), .int .i64 n] w fun e w' => e = .returned (.bool bz) ∧ w = w') := by
  by_cases hn : 0 ≤ n ∧ n < 8
  · obtain ⟨k, rfl⟩ : ∃ k : Nat, n = (k : Int) := ⟨n.toNat, by omega⟩
    have hk : k < 8 := by omega
    exact ⟨decide (0 < (q.th k).pc), .inr (.inr ⟨hn.1, hn.2, k, hk, rfl, rfl⟩), hide fun w lo b m => busy_in m.is hk _ (by simp)⟩
  · refine ⟨false, ?_, hide fun w lo b m => busy_out m.is hn⟩
    by_cases h : n < 0
    · exact .inl ⟨h, rfl⟩
    · exact .inr (.inl ⟨by omega, by omega, rfl⟩)

/-- both give the same -/
theorem items_both {q : Qu} {R : List Nat} (B : Bo q R) (W : Wf q) : ∃ V : List Int, V.length ≤ 100000 ∧
    (∀ (w : World) (lo b : Nat), Mp w lo b q → Calls Try.prog 18 #[.pointer (some ⟨b, 0, none⟩)] w fun e w' => ∃ v, e = .returned v ∧ LS w' w.heap.size v V ∧ Fr (fun _ => False) w w') ∧
    (∀ (w : World) (lo b : Nat), MM w lo b q → Calls Try.prog 19 #[.pointer (some ⟨b, 0, none⟩)] w fun e w' => ∃ v, e = .returned v ∧ LS w' w.heap.size v V ∧ Fr (fun _ => False) w w') := by
  obtain ⟨l, hC, hpre, _⟩ := B.lin.chn
  have hl : l.length ≤ 100000 := by
    have h1 := hpre.length_le
    have h2 := nodup_le B.lin.nodup B.lin.mem
    have := B.len
    simp at h2
    omega
  refine ⟨l.map q.v, by simpa using hl, fun w lo b m => mitems m hC hl, fun w lo b mm => ?_⟩
  obtain ⟨h, gv, gn, cv, cn, m1⟩ := mm
  exact ritems m1 (rf_N W.tail) (rc_of W B.nm (fun z hz => B.nm.nx q.tail z hz) hC) (by simpa using hl)

theorem mm_new (w : World) : Calls Try.prog 11 #[] w fun e w' => ∃ b, e = .returned (.pointer (some ⟨b, 0, none⟩)) ∧ (∀ g, MM w' w.heap.size b (Qu.new g)) ∧ Fr (fun _ => False) w w' :=
  (rnew w).mono fun e w' ⟨b, h, gv, gn, h1, h2, h3⟩ => ⟨b, h1, fun g => ⟨h, gv, gn, 1, 1, by
    have e : rf (Qu.new g) = Rf.new := by
      show (⟨[0], [0], [g].idxOf g, [g].idxOf g, fun _ => Rt.zero⟩ : Rf) = ⟨[0], [0], 0, 0, fun _ => Rt.zero⟩
      simp
    rw [e]; exact h2⟩, h3⟩

end Go.Proofs.Ytingpopcdihclab
