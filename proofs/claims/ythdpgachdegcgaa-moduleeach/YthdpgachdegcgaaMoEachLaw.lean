/-
  The law ModuleEach: all instructions are given, each once, in order, with their places; who leaves early has had just the first ones.
-/
import Derived.Test.YthdpgachdegcgaaMoEachIt
import Derived.Test.YthdpgachdegcgaaMoLives
import Derived.Test.YthdpgachdegcgaaQuietRound
namespace Go.Proofs.Ythdpgachdegcgaa
open Go.RowKit Go.Shelf
attribute [local go_sem] Oper.semAt_some
set_option linter.unusedVariables false
set_option maxRecDepth 100000

/-- where the law stands in the rows: pre has come -/
def EInv (ls : List (List (Int × Int))) (n k j : Nat) (pre : List It4) : Prop := k ≤ n ∧ pre = atI ls k j ∧ (k < n → j ≤ (ls.getD k []).length) ∧ (k = n → j = 0)

/-- the law's own cells between two rounds; K the first of its four -/
structure EI (w : World) (L K n c : Nat) (a : Option Addr) (st : Int) (ls : List (List (Int × Int))) (pre : List It4) (W : World) : Prop where
  inv : ∃ k j : Nat, EInv ls n k j pre ∧ Boxed W K 3 (.int .i64 k) ∧ Boxed W (K + 1) 3 (.int .i64 j)
  cn : Boxed W (K + 1 + 1) 3 (.int .i64 (wrap64 pre.length))
  cs : Boxed W (K + 1 + 1 + 1) 3 (.int .i64 st)
  cm : Boxed W w.heap.size 25 (.slice a n c)
  cr : Boxed W (w.heap.size + 1) 4 (.bool false)
  bel : Below w.heap.size w W
  sz : L ≤ W.heap.size
/-- a round has left -/
structure EX (w : World) (xs : List It4) (cd : Code) (pre : List It4) (W : World) : Prop where
  ret : cd = .ret
  res : ∃ r, Boxed W (w.heap.size + 1) 4 (.bool r) ∧ (pre <+: xs → r = true)
  bel : Below w.heap.size w W

theorem boxed_keep {A A' : World} {b : Nat} {t : TypeId} {v : Value} {row : Option Nat} (h : Boxed A b t v) (hg : A.grownBy A' row) (hr : ∀ r, row = some r → ∃ o : Obj, A.heap[r]? = some o ∧ o.isCells = false) : Boxed A' b t v :=
  boxed_own (β := Unit) b t (fun _ => v) () A A' row h hg hr

theorem EI.own (w : World) (L K n c : Nat) (a : Option Addr) (st : Int) (ls : List (List (Int × Int))) {B : Nat} (hB : w.heap.size ≤ B) : OwnFrom B (EI w L K n c a st ls) := by
  intro s W W' row h hg hr
  have hr' : ∀ r, row = some r → ∃ o : Obj, W.heap[r]? = some o ∧ o.isCells = false := fun r e => (hr r e).2
  obtain ⟨k, j, h1, h2, h3⟩ := h.inv
  exact ⟨⟨k, j, h1, boxed_keep h2 hg hr', boxed_keep h3 hg hr'⟩, boxed_keep h.cn hg hr', boxed_keep h.cs hg hr', boxed_keep h.cm hg hr', boxed_keep h.cr hg hr',
    ownFrom_below (β := Unit) (Nat.le_refl _) hB () W W' row h.bel hg hr, Nat.le_trans h.sz hg.size⟩
theorem EX.own (w : World) (xs : List It4) (cd : Code) {B : Nat} (hB : w.heap.size ≤ B) : OwnFrom B (EX w xs cd) := by
  intro s W W' row h hg hr
  obtain ⟨r, h1, h2⟩ := h.res
  exact ⟨h.ret, ⟨r, boxed_keep h1 hg (fun r e => (hr r e).2), h2⟩, ownFrom_below (β := Unit) (Nat.le_refl _) hB () W W' row h.bel hg hr⟩

def kOf (w : World) (b : Nat) : Nat := match w.cell? ⟨b, 0, none⟩ with | some (.int _ z) => z.toNat | _ => 0
theorem kOf_boxed {w : World} {b k : Nat} (h : Boxed w b 3 (.int .i64 (k : Int))) : kOf w b = k := by unfold kOf; rw [h.cell]; simp

/-- the two boxes of a round's own, and the slots -/
def EA (w : World) (K n c B : Nat) (a : Option Addr) (leave st : Int) (lo : Nat) (x : It4) (a' : Act) (W : World) : Prop :=
  ∃ Bp, lo ≤ Bp ∧ W.heap[Bp]? = some (.cells #[.int .i64 (x.1.1 : Int), .int .i64 (x.1.2 : Int)] 35 (0, 0)) ∧ W.heap[Bp + 1]? = some (.cells #[.int .i64 x.2.1, .int .i64 x.2.2] 37 (0, 0)) ∧
    a' = { tmps := #[moV a n c, .int .i64 leave, .pointer (some ⟨w.heap.size, 0, none⟩), undef, .pointer (some ⟨w.heap.size + 1, 0, none⟩), .pointer (some ⟨K, 0, none⟩), .pointer (some ⟨K + 1, 0, none⟩), .pointer (some ⟨K + 1 + 1, 0, none⟩), .pointer (some ⟨K + 1 + 1 + 1, 0, none⟩), .pointer (some ⟨Bp, 0, none⟩), .pointer (some ⟨Bp + 1, 0, none⟩), undef, undef,
      .bool true, .bool false, .int .i64 leave, .int .u64 (IntKind.u64.wrap leave), .int .u64 ((IntKind.u64.wrap leave).tmod 500), .int .i64 st, .agg #[.slice a n c], .func (.func 26) #[] #[.pointer (some ⟨B, 0, none⟩)], .agg #[.int .i64 (x.1.1 : Int), .int .i64 (x.1.2 : Int)], insV x.2.1 x.2.2,
      undef, undef, undef, undef, undef, undef, undef, undef, undef, undef, undef, undef, undef, undef, undef, undef, undef, undef, undef, undef, undef, undef, undef, undef, undef, undef, undef, undef, undef, undef, undef, undef, undef, undef, undef, undef, undef, undef, undef, undef, undef, undef, undef, undef, undef, undef, undef, undef, undef, undef, undef, undef, undef, undef, undef, undef, undef, undef, undef, undef, undef, undef, undef, undef, undef, undef, undef, undef, undef, undef, undef, undef, undef, undef], defers := [] }

theorem EA.own (w : World) (K n c B : Nat) (a : Option Addr) (leave st : Int) (lo : Nat) (x : It4) (a' : Act) {B0 : Nat} : OwnFrom B0 (fun (_ : Unit) W => EA w K n c B a leave st lo x a' W) := by
  intro s W W' row ⟨Bp, h1, h2, h3, h4⟩ hg hr
  have key : ∀ {b : Nat} {o : Obj}, W.heap[b]? = some o → o.isCells = true → W'.heap[b]? = some o := by
    intro b o ho hc
    by_cases e : some b = row
    · obtain ⟨_, o', ho', hc'⟩ := hr b e.symm
      rw [ho] at ho'; cases ho'; rw [hc] at hc'; cases hc'
    · rw [hg.block b (lt_of_blk ho) e]; exact ho
  exact ⟨Bp, h1, key h2 rfl, key h3 rfl, h4⟩

/-- what a round keeps beside its counters -/
structure RB (w W : World) (L3 L Bp : Nat) (x : It4) (V : World) : Prop where
  kr : KR L3 L W V
  kf : KeepsFrom L W V
  p : V.heap[Bp]? = some (.cells #[.int .i64 (x.1.1 : Int), .int .i64 (x.1.2 : Int)] 35 (0, 0))
  q : V.heap[Bp + 1]? = some (.cells #[.int .i64 x.2.1, .int .i64 x.2.2] 37 (0, 0))
  bel : Below w.heap.size w V
  sz : L ≤ V.heap.size
theorem RB.set {w W : World} {L3 L Bp : Nat} {x : It4} {V : World} (h : RB w W L3 L Bp x V) {b : Nat} (hb : w.heap.size ≤ b) (hb3 : b < L3) (hL : L3 ≤ L) (hBp : L ≤ Bp) (u : Value) : RB w W L3 L Bp x (V.setCell ⟨b, 0, none⟩ u) := by
  refine ⟨h.kr.trans ⟨by simp [World.setCell], fun k h1 h2 => Below.heap_setCell _ _ _ _ (by dsimp only; omega)⟩, h.kf.trans ((KeepsOthers.setCell _ _ _).from _), ?_, ?_, h.bel.setCell (p := ⟨b, 0, none⟩) hb _, by have := h.sz; simpa [World.setCell] using this⟩
  · rw [Below.heap_setCell _ _ _ _ (by dsimp only; omega)]; exact h.p
  · rw [Below.heap_setCell _ _ _ _ (by dsimp only; omega)]; exact h.q
theorem RB.drewN {w W : World} {L3 L Bp : Nat} {x : It4} {V : World} (h : RB w W L3 L Bp x V) (k : Nat) : RB w W L3 L Bp x (V.drewN k) :=
  ⟨h.kr, ⟨h.kf.size, h.kf.same⟩, h.p, h.q, ⟨h.bel.os, h.bel.tape, h.bel.output, h.bel.size, h.bel.block⟩, h.sz⟩
theorem boxed_set {V : World} {b : Nat} {t : TypeId} {v : Value} (h : Boxed V b t v) (u : Value) : Boxed (V.setCell ⟨b, 0, none⟩ u) b t u := by
  have := blk_setCell (i := 0) (u := u) h
  unfold Boxed
  simpa using this
theorem boxed_drewN {V : World} {b : Nat} {t : TypeId} {v : Value} (h : Boxed V b t v) (k : Nat) : Boxed (V.drewN k) b t v := h
theorem wrap_add (z b : Int) : wrap64 (wrap64 z + b) = wrap64 (z + b) := by unfold wrap64; omega
theorem wrap_one (z : Int) : wrap64 (wrap64 z + 1) = wrap64 (z + 1) := by unfold wrap64; omega

set_option maxHeartbeats 4000000 in
theorem meach_law {hi : Nat} {w : World} {a : Option Addr} {n : Nat} {m : List Ac} (h : AcA 0 hi w a n m) (hh : hi ≤ w.heap.size) (c : Nat) (leave : Int) (hlv : -9223372036854775808 ≤ leave ∧ leave ≤ 9223372036854775807) (hb : n ≤ 5864062014805) (hc : ∀ x ∈ m, x.cs.length ≤ 8796093022208) :
    Calls Try.prog 4 #[moV a n c, .int .i64 leave] w fun e w' => e = .returned (.bool true) ∧ Below w.heap.size w w' := by
  refine (callsIn_wide (n := 4)).1 ?_
  refine callsIn_of_wp_marks Try.func4 rfl trivial ?_ rfl
  simp only [Try.ntmps4, List.size_toArray, List.length_cons, List.length_nil, Nat.reduceAdd, Nat.reduceSub, Array.replicate_succ, Array.replicate_zero, List.push_toArray, List.append_toArray, List.nil_append, List.cons_append]
  have HA := hide h
  have HC := hide hc
  have hs := h.small
  have q1 : Q0 w ((w.alloc (.cells #[.slice a n c] 25)).alloc (.cells #[.bool false] 4)) := ((Fr.refl _ w).alloc _).alloc _
  have b1 : ((w.alloc (.cells #[.slice a n c] 25)).alloc (.cells #[.bool false] 4)).heap[w.heap.size]? = some (.cells #[.slice a n c] 25 (0, 0)) := blk_alloc (blk_new w _)
  have b2 : ((w.alloc (.cells #[.slice a n c] 25)).alloc (.cells #[.bool false] 4)).heap[w.heap.size + 1]? = some (.cells #[.bool false] 4 (0, 0)) := by
    have := blk_new (w.alloc (.cells #[.slice a n c] 25)) (.cells #[.bool false] 4)
    simpa using this
  have B1 := hide b1
  have B2 := hide b2
  obtain ⟨st, hst⟩ : ∃ st : Int, wrap64 ((IntKind.u64.wrap leave).tmod 500) = st := ⟨_, rfl⟩
  clear h hc b1 b2
  gi_wp2_with fail
  refine ⟨trivial, ?_⟩
  refine (callsIn_wide.2 (mlives_calls _)).mono ?_
  rintro e w2 ⟨rfl, hF2⟩
  have F2 := q1.then hF2
  have C1 := hF2.blk (unhide B1) (fun h => h)
  have C2 := hF2.blk (unhide B2) (fun h => h)
  have c1 := cell_at C1 0
  simp at c1
  generalize (w.alloc (.cells #[.slice a n c] 25)).alloc (.cells #[.bool false] 4) = w1 at *
  have q3 : Q0 w2 ((((w2.alloc (.cells #[.int .i64 0] 3)).alloc (.cells #[.int .i64 0] 3)).alloc (.cells #[.int .i64 0] 3)).alloc (.cells #[.int .i64 st] 3)) := ((((Fr.refl _ w2).alloc _).alloc _).alloc _).alloc _
  have k0 : ((((w2.alloc (.cells #[.int .i64 0] 3)).alloc (.cells #[.int .i64 0] 3)).alloc (.cells #[.int .i64 0] 3)).alloc (.cells #[.int .i64 st] 3)).heap[w2.heap.size]? = some (.cells #[.int .i64 0] 3 (0, 0)) := blk_alloc (blk_alloc (blk_alloc (blk_new w2 _)))
  have k1 : ((((w2.alloc (.cells #[.int .i64 0] 3)).alloc (.cells #[.int .i64 0] 3)).alloc (.cells #[.int .i64 0] 3)).alloc (.cells #[.int .i64 st] 3)).heap[w2.heap.size + 1]? = some (.cells #[.int .i64 0] 3 (0, 0)) := blk_alloc (blk_alloc (by have := blk_new (w2.alloc (.cells #[.int .i64 0] 3)) (.cells #[.int .i64 0] 3); simpa using this))
  have k2 : ((((w2.alloc (.cells #[.int .i64 0] 3)).alloc (.cells #[.int .i64 0] 3)).alloc (.cells #[.int .i64 0] 3)).alloc (.cells #[.int .i64 st] 3)).heap[w2.heap.size + 1 + 1]? = some (.cells #[.int .i64 0] 3 (0, 0)) := blk_alloc (by have := blk_new ((w2.alloc (.cells #[.int .i64 0] 3)).alloc (.cells #[.int .i64 0] 3)) (.cells #[.int .i64 0] 3); simpa using this)
  have k3 : ((((w2.alloc (.cells #[.int .i64 0] 3)).alloc (.cells #[.int .i64 0] 3)).alloc (.cells #[.int .i64 0] 3)).alloc (.cells #[.int .i64 st] 3)).heap[w2.heap.size + 1 + 1 + 1]? = some (.cells #[.int .i64 st] 3 (0, 0)) := by
    have := blk_new (((w2.alloc (.cells #[.int .i64 0] 3)).alloc (.cells #[.int .i64 0] 3)).alloc (.cells #[.int .i64 0] 3)) (.cells #[.int .i64 st] 3); simpa using this
  have k4 := q3.blk C1 (fun h => h)
  have k5 := q3.blk C2 (fun h => h)
  have d4 := cell_at k4 0
  have z3 : ((((w2.alloc (.cells #[.int .i64 0] 3)).alloc (.cells #[.int .i64 0] 3)).alloc (.cells #[.int .i64 0] 3)).alloc (.cells #[.int .i64 st] 3)).heap.size = w2.heap.size + 4 := by simp
  simp at d4
  have F3 := F2.then q3
  have zF := F2.size
  have zq := lt_of_blk C2
  have HE := hide (each_calls (AcA.fr (unhide HA) F3 q0_no) (by omega) c hb (unhide HC))
  gi_wp2_with fail
  refine ⟨trivial, ?_⟩
  generalize hW3 : (((w2.alloc (.cells #[.int .i64 0] 3)).alloc (.cells #[.int .i64 0] 3)).alloc (.cells #[.int .i64 0] 3)).alloc (.cells #[.int .i64 st] 3) = w3 at *
  refine (callsIn_wide.2 (unhide HE)).mono ?_
  rintro e w4 ⟨B, g, rfl, hB0, hB, hCd, hF4⟩
  have p0 := hF4.blk k0 (fun h => h)
  have p1 := hF4.blk k1 (fun h => h)
  have p2 := hF4.blk k2 (fun h => h)
  have p3 := hF4.blk k3 (fun h => h)
  have p4 := hF4.blk k4 (fun h => h)
  have p5 := hF4.blk k5 (fun h => h)
  have F4 := F3.then hF4
  have z4 := hF4.size
  clear k0 k1 k2 k3 k4 k5 d4 q3 F3 HE hW3 C1 C2 c1 hF4
  gi_wp2_with fail
  generalize hK : w2.heap.size = K at *
  have zB := lt_of_blk hB
  have hml := (unhide HA).len
  refine wpIn_rangeFunc_ownH (α := It4) rfl (by omega) (gf := 26) (lb := #[.pointer (some ⟨B, 0, none⟩)]) rfl trivial (enters_of Try.func26 (by kernel_rfl) rfl)
    (each1_stops 3 (by omega) w3.heap.size w4.heap.size B g n (m.map Ac.cs) w4 (Nat.le_refl _) hB0 zB hB hCd) KR.trans ?hKb (Below.refl _ _) (fun _ => rfl)
    (EI w w4.heap.size K n c a st (m.map Ac.cs)) (EX w (itemsI (m.map Ac.cs) n)) (EI.own w w4.heap.size K n c a st _ (by omega)) (fun cd => EX.own w _ cd (by omega)) ?h0 (EA w K n c B a leave st w4.heap.size) (fun x a' => EA.own w K n c B a leave st _ x a') ?assign ?body ?done ?stop
  case hKb =>
    intro W l o o' hl ho hc hw
    refine ⟨by simp [World.putObj], fun i h1 h2 => ?_⟩
    simp only [World.putObj]
    rw [Array.getElem?_setIfInBounds, if_neg (by omega)]
  case h0 =>
    have e0 : wrap64 ((([] : List It4).length : Nat) : Int) = 0 := by
      show wrap64 0 = 0
      first | rfl | decide | (unfold wrap64; rfl) | simp
    have p2' : Boxed w4 (K + 1 + 1) 3 (.int .i64 (wrap64 ((([] : List It4).length : Nat) : Int))) := by rw [e0]; exact p2
    exact ⟨⟨0, 0, ⟨Nat.zero_le _, rfl, fun _ => Nat.zero_le _, fun _ => rfl⟩, p0, p1⟩, p2', p3, p4, p5, F4.below (Nat.le_refl _) (fun _ _ h => h), Nat.le_refl _⟩
  case assign =>
    rintro l pre x W K' hi hK'
    dsimp only [itE]
    gi_wp2
    have zW := hi.sz
    have hb2 := blk_new (W.alloc (.cells #[.int .i64 (x.1.1 : Int), .int .i64 (x.1.2 : Int)] 35)) (.cells #[.int .i64 x.2.1, .int .i64 x.2.2] 37)
    exact hK' _ _ (((KeepsOthers.alloc _ _).trans (KeepsOthers.alloc _ _)).from _) ((KR.alloc (by omega) _).trans (KR.alloc (by simp; omega) _)) ((EI.own w w4.heap.size K n c a st _ (B := w4.heap.size) (by omega)).alloc _ ((EI.own w w4.heap.size K n c a st _ (B := w4.heap.size) (by omega)).alloc _ hi)) ⟨W.heap.size, zW, blk_alloc (blk_new W _), by simpa using hb2, rfl⟩
  case body =>
    rintro l pre x a' W hl ⟨r, hr⟩ hI ⟨Bp, hBp, hp, hq, rfl⟩ hlt
    gi_wp2
    have z34 : w3.heap.size ≤ w4.heap.size := z4
    have zK : K + 4 = w3.heap.size := by omega
    gi_loopw [] (fun wr => EI w w4.heap.size K n c a st (m.map Ac.cs) pre wr ∧ RB w W w3.heap.size w4.heap.size Bp x wr) (fun wr => n - kOf wr K)
    case atStart => exact ⟨hI, KR.refl _ _ _, KeepsFrom.refl _ _, hp, hq, hI.bel, hI.sz⟩
    case round =>
      clear hI hp hq
      obtain ⟨hI, hR⟩ := hrel
      obtain ⟨k, j, ⟨e1, e2, e3, e4⟩, bk, bj⟩ := hI.inv
      have ck := bk.cell
      have cj := bj.cell
      have cm := hI.cm.cell
      have fk := bk.frozen
      have fj := bj.frozen
      have hAr : AcA 0 hi wr a n m := AcA.fr (unhide HA) (Fr.ofBelow hI.bel (fun _ => False)) q0_no
      by_cases hkn : k < n
      · obtain ⟨b, off, s, y, rfl, _, _, hy, hS, g0, g1, g2, g3, g4⟩ := AcA.get hAr hkn
        have hgd : (m.map Ac.cs).getD k [] = y.cs := by rw [List.getD_eq_getElem?_getD, List.getElem?_map, hy]; rfl
        have hcl := hS.cs.len
        have hcs := hS.cs.small
        have hkn' : (k : Int) < (n : Int) := by omega
        have hj0 := e3 hkn
        rw [hgd, hcl] at hj0
        by_cases hj : (s 3).2.1 ≤ j
        · have hj' : (j : Int) ≥ ((s 3).2.1 : Int) := by omega
          have hji : j = (s 3).2.1 := by omega
          have HI := hide hI
          have HR := hide hR
          clear hI hR hAr hS
          gi_wp2
          refine wpIn_round_quiet_lit l rfl (by kernel_rfl) (by kernel_rfl) (by simp) ?_
          repeat (gi_big_quiet_step (fail))
          refine wpQuietIn_nil ?_
          intro _ hw'
          obtain ⟨nq, hw''⟩ := hw'
          subst hw''
          gi_wp2
          have hI := unhide HI
          have hR' := (((unhide HR).drewN nq).set (b := K) (by omega) (by omega) z34 hBp (.int .i64 ((k : Int) + 1))).set (b := K + 1) (by omega) (by omega) z34 hBp (.int .i64 0)
          have bk2 : Boxed (((wr.drewN nq).setCell ⟨K, 0, none⟩ (.int .i64 ((k : Int) + 1))).setCell ⟨K + 1, 0, none⟩ (.int .i64 0)) K 3 (.int .i64 ((k + 1 : Nat) : Int)) := by
            have := Boxed.other (boxed_set (boxed_drewN bk nq) (.int .i64 ((k : Int) + 1))) (B' := K + 1) (by omega) (.int .i64 0)
            simpa using this
          have oth : ∀ {b' : Nat} {t' : TypeId} {v' : Value}, b' ≠ K → b' ≠ K + 1 → Boxed wr b' t' v' → Boxed (((wr.drewN nq).setCell ⟨K, 0, none⟩ (.int .i64 ((k : Int) + 1))).setCell ⟨K + 1, 0, none⟩ (.int .i64 0)) b' t' v' :=
            fun h1 h2 hb => Boxed.other (Boxed.other (boxed_drewN hb nq) h1 _) h2 _
          refine ⟨⟨⟨⟨k + 1, 0, ⟨by omega, ?_, fun _ => Nat.zero_le _, fun _ => rfl⟩, bk2, boxed_set (Boxed.other (boxed_drewN bj nq) (by omega) _) _⟩, oth (by omega) (by omega) hI.cn, oth (by omega) (by omega) hI.cs, oth (by omega) (by omega) hI.cm, oth (by omega) (by omega) hI.cr, hR'.bel, hR'.sz⟩, hR'⟩, ?_⟩
          · rw [e2, ← atI_next, hgd, hcl, hji]
          · rw [kOf_boxed bk2, kOf_boxed bk]; omega
        · obtain ⟨b5, o5, op, ar, ha5, _, _, hy5, _, _, i0, i1⟩ := PrA.get hS.cs (i := j) (by omega)
          have hst := atI_succ (m.map Ac.cs) k j
          have hpre := atI_pre (m.map Ac.cs) (k := k) (j := j + 1) (n := n) hkn (by rw [hgd, hcl]; omega)
          rw [hgd, List.getD_eq_getElem?_getD, hy5, ← e2] at hst
          rw [hst] at hpre
          have HX : Hid (pre ++ [x] <+: itemsI (m.map Ac.cs) n → x = ((k, j), (op, ar))) := hide (fun hp => by
            have := List.prefix_of_prefix_length_le hp hpre (by simp)
            simpa using this)
          have hjn : decide ((j : Int) ≥ ((s 3).2.1 : Int)) = false := by simp; omega
          have hjn2 : (j : Int) < ((s 3).2.1 : Int) := by omega
          have hkg : decide (n ≤ k) = false := by simp; omega
          have x0 := cell_at hR.p 0
          have x1 := cell_at hR.p 1
          have y0 := cell_at hR.q 0
          have y1 := cell_at hR.q 1
          simp at x0 x1 y0 y1
          have fr := hI.cr.frozen
          have cr := hI.cr.cell
          rw [ha5] at g3
          have HI := hide hI
          have HR := hide hR
          have ZK := hide zK
          have ZF := hide (show w.heap.size + 1 < K by omega)
          have Z34 := hide z34
          have E2 := hide e2
          have HPre := hide hpre
          have HST := hide hst
          have HLE : Hid (j + 1 ≤ ((m.map Ac.cs).getD k []).length) := hide (by rw [hgd, hcl]; omega)
          clear hI hR hAr hS zK z3 e2 e3 e4 hlt z34 z4 F4 zB zF zq hst hpre hy5 hgd
          by_cases hA : x.1.1 = k
          · have hA0 : ((x.1.1 : Int) != (k : Int)) = false := by rw [hA]; simp
            by_cases hB2 : x.1.2 = j
            · have hB0 : ((x.1.2 : Int) != (j : Int)) = false := by rw [hB2]; simp
              by_cases hC : x.2.1 = op
              · have hC0 : (x.2.1 == op) = true := by simp [hC]
                by_cases hD : x.2.2 = ar
                · obtain ⟨⟨p1, p2⟩, ⟨p3, p4⟩⟩ := x
                  dsimp only at hA hB2 hC hD hA0 hB0 hC0 x0 x1 y0 y1 HX HPre HST
                  subst hA hB2 hC hD
                  have hD0 : (p4 == p4) = true := by simp
                  have cn := (unhide HI).cn.cell
                  have fn := (unhide HI).cn.frozen
                  have cs := (unhide HI).cs.cell
                  obtain ⟨z, hz⟩ : ∃ z : Int, wrap64 (pre.length : Int) = z := ⟨_, rfl⟩
                  rw [hz] at cn
                  have HZ := hide hz
                  clear hz
                  gi_wp2
                  refine wpIn_round_quiet_lit l rfl (by kernel_rfl) (by kernel_rfl) (by simp) ?_
                  repeat (gi_big_quiet_step (fail))
                  refine wpQuietIn_nil ?_
                  intro _ hw'
                  obtain ⟨nq, hw''⟩ := hw'
                  subst hw''
                  gi_wp2
                  refine wpIn_round_quiet_lit l rfl (by kernel_rfl) (by kernel_rfl) (by simp) ?_
                  repeat (gi_big_quiet_step (fail))
                  refine wpQuietIn_nil ?_
                  intro _ hw'
                  obtain ⟨nq2, hw''⟩ := hw'
                  subst hw''
                  have hRq : RB w W w3.heap.size w4.heap.size Bp ((p1, p2), (p3, p4)) ((wr.drewN nq).drewN nq2) := ((unhide HR).drewN nq).drewN nq2
                  have bkq : Boxed ((wr.drewN nq).drewN nq2) K 3 (.int .i64 (p1 : Int)) := bk
                  have bjq : Boxed ((wr.drewN nq).drewN nq2) (K + 1) 3 (.int .i64 (p2 : Int)) := bj
                  have bnq : Boxed ((wr.drewN nq).drewN nq2) (K + 1 + 1) 3 (.int .i64 z) := by have := (unhide HI).cn; rw [unhide HZ] at this; exact this
                  have bsq : Boxed ((wr.drewN nq).drewN nq2) (K + 1 + 1 + 1) 3 (.int .i64 st) := (unhide HI).cs
                  have bmq : Boxed ((wr.drewN nq).drewN nq2) w.heap.size 25 (.slice (some ⟨b, off, none⟩) n c) := (unhide HI).cm
                  have brq : Boxed ((wr.drewN nq).drewN nq2) (w.heap.size + 1) 4 (.bool false) := (unhide HI).cr
                  have cj2 := bjq.cell
                  have fj2 := bjq.frozen
                  have cn2 := bnq.cell
                  have fn2 := bnq.frozen
                  have cs2 := bsq.cell
                  have cr2 := brq.cell
                  have fr2 := brq.frozen
                  generalize (wr.drewN nq).drewN nq2 = wq at *
                  have hne1 : w.heap.size + 1 ≠ K + 1 := by have := unhide ZF; omega
                  have hne2 : w.heap.size + 1 ≠ K + 1 + 1 := by have := unhide ZF; omega
                  clear ck cj cm fk fj x0 x1 y0 y1 fr cr cn fn cs hA0 hB0 hC0 hD0 g0 g1 g2 g3 g4 i0 i1 bk bj
                  have hw0 := unhide ZF
                  have hR' := (hRq.set (b := K + 1) (by omega) (by have := unhide ZK; omega) (unhide Z34) hBp (.int .i64 ((p2 : Int) + 1))).set (b := K + 1 + 1) (by omega) (by have := unhide ZK; omega) (unhide Z34) hBp (.int .i64 (wrap64 (z + 1)))
                  clear hw0
                  by_cases hst2 : wrap64 (z + 1) = st
                  · have hs0 : (wrap64 (z + 1) == st) = true := by simp [hst2]
                    clear hst2
                    gi_wp2
                    have hR2 := hR'.set (b := w.heap.size + 1) (by omega) (by have := unhide ZK; have := unhide ZF; omega) (unhide Z34) hBp (.bool true)
                    exact ⟨hR2.kf, rfl, ⟨true, boxed_set (Boxed.other (Boxed.other brq hne1 _) hne2 _) _, fun _ => rfl⟩, hR2.bel⟩
                  · have hs0 : (wrap64 (z + 1) == st) = false := by simp [hst2]
                    clear hst2
                    gi_wp2
                    have hw0 := unhide ZF
                    have oth : ∀ {b' : Nat} {t' : TypeId} {v' : Value}, b' ≠ K + 1 → b' ≠ K + 1 + 1 → Boxed wq b' t' v' → Boxed ((wq.setCell ⟨K + 1, 0, none⟩ (.int .i64 ((p2 : Int) + 1))).setCell ⟨K + 1 + 1, 0, none⟩ (.int .i64 (wrap64 (z + 1)))) b' t' v' :=
                      fun h1 h2 hb => Boxed.other (Boxed.other hb h1 _) h2 _
                    have bj3 : Boxed ((wq.setCell ⟨K + 1, 0, none⟩ (.int .i64 ((p2 : Int) + 1))).setCell ⟨K + 1 + 1, 0, none⟩ (.int .i64 (wrap64 (z + 1)))) (K + 1) 3 (.int .i64 ((p2 + 1 : Nat) : Int)) := by
                      have := Boxed.other (boxed_set bjq (.int .i64 ((p2 : Int) + 1))) (B' := K + 1 + 1) (by omega) (.int .i64 (wrap64 (z + 1)))
                      simpa using this
                    have bn3 : Boxed ((wq.setCell ⟨K + 1, 0, none⟩ (.int .i64 ((p2 : Int) + 1))).setCell ⟨K + 1 + 1, 0, none⟩ (.int .i64 (wrap64 (z + 1)))) (K + 1 + 1) 3 (.int .i64 (wrap64 ((pre ++ [((p1, p2), (p3, p4))]).length : Nat))) := by
                      have := boxed_set (Boxed.other bnq (B' := K + 1) (by omega) (.int .i64 ((p2 : Int) + 1))) (.int .i64 (wrap64 (z + 1)))
                      rw [← unhide HZ, wrap_add] at this
                      rw [List.length_append, List.length_singleton]
                      rw [← unhide HZ, wrap_add]
                      exact this
                    exact ⟨hR'.kf, hR'.kr, ⟨⟨p1, p2 + 1, ⟨by omega, (unhide HST).symm, fun _ => unhide HLE, fun h => by omega⟩, oth (by omega) (by omega) bkq, bj3⟩, bn3, oth (by omega) (by omega) bsq, oth (by omega) (by omega) bmq, oth hne1 hne2 brq, hR'.bel, hR'.sz⟩⟩
                · have hD0 : (x.2.2 == ar) = false := by simp [hD]
                  have hne : x ≠ ((k, j), (op, ar)) := fun e => hD (by rw [e])
                  gi_wp2
                  refine wpIn_round_quiet_lit l rfl (by kernel_rfl) (by kernel_rfl) (by simp) ?_
                  repeat (gi_big_quiet_step (fail))
                  refine wpQuietIn_nil ?_
                  intro _ hw'
                  obtain ⟨nq, hw''⟩ := hw'
                  subst hw''
                  gi_wp2
                  refine wpIn_round_quiet_lit l rfl (by kernel_rfl) (by kernel_rfl) (by simp) ?_
                  repeat (gi_big_quiet_step (fail))
                  refine wpQuietIn_nil ?_
                  intro _ hw'
                  obtain ⟨nq2, hw''⟩ := hw'
                  subst hw''
                  have cr2 : ((wr.drewN nq).drewN nq2).cell? ⟨w.heap.size + 1, 0, none⟩ = some (.bool false) := cr
                  have fr2 : ((wr.drewN nq).drewN nq2).frozen? ⟨w.heap.size + 1, 0, none⟩ = false := fr
                  gi_wp2
                  have hR' := ((unhide HR).drewN (nq + nq2)).set (b := w.heap.size + 1) (by omega) (by have := unhide ZK; have := unhide ZF; omega) (unhide Z34) hBp (.bool false)
                  exact ⟨hR'.kf, rfl, ⟨false, boxed_set (boxed_drewN (unhide HI).cr (nq + nq2)) _, fun hp => absurd (unhide HX hp) hne⟩, hR'.bel⟩
              · have hC0 : (x.2.1 == op) = false := by simp [hC]
                have hne : x ≠ ((k, j), (op, ar)) := fun e => hC (by rw [e])
                gi_wp2
                refine wpIn_round_quiet_lit l rfl (by kernel_rfl) (by kernel_rfl) (by simp) ?_
                repeat (gi_big_quiet_step (fail))
                refine wpQuietIn_nil ?_
                intro _ hw'
                obtain ⟨nq, hw''⟩ := hw'
                subst hw''
                gi_wp2
                refine wpIn_round_quiet_lit l rfl (by kernel_rfl) (by kernel_rfl) (by simp) ?_
                repeat (gi_big_quiet_step (fail))
                refine wpQuietIn_nil ?_
                intro _ hw'
                obtain ⟨nq2, hw''⟩ := hw'
                subst hw''
                have cr2 : ((wr.drewN nq).drewN nq2).cell? ⟨w.heap.size + 1, 0, none⟩ = some (.bool false) := cr
                have fr2 : ((wr.drewN nq).drewN nq2).frozen? ⟨w.heap.size + 1, 0, none⟩ = false := fr
                gi_wp2
                have hR' := ((unhide HR).drewN (nq + nq2)).set (b := w.heap.size + 1) (by omega) (by have := unhide ZK; have := unhide ZF; omega) (unhide Z34) hBp (.bool false)
                exact ⟨hR'.kf, rfl, ⟨false, boxed_set (boxed_drewN (unhide HI).cr (nq + nq2)) _, fun hp => absurd (unhide HX hp) hne⟩, hR'.bel⟩
            · have hB' : ((x.1.2 : Int) != (j : Int)) = true := by rw [bne_iff_ne]; omega
              have hne : x ≠ ((k, j), (op, ar)) := fun e => hB2 (by rw [e])
              gi_wp2
              refine wpIn_round_quiet_lit l rfl (by kernel_rfl) (by kernel_rfl) (by simp) ?_
              repeat (gi_big_quiet_step (fail))
              refine wpQuietIn_nil ?_
              intro _ hw'
              obtain ⟨nq, hw''⟩ := hw'
              subst hw''
              gi_wp2
              refine wpIn_round_quiet_lit l rfl (by kernel_rfl) (by kernel_rfl) (by simp) ?_
              repeat (gi_big_quiet_step (fail))
              refine wpQuietIn_nil ?_
              intro _ hw'
              obtain ⟨nq2, hw''⟩ := hw'
              subst hw''
              have cr2 : ((wr.drewN nq).drewN nq2).cell? ⟨w.heap.size + 1, 0, none⟩ = some (.bool false) := cr
              have fr2 : ((wr.drewN nq).drewN nq2).frozen? ⟨w.heap.size + 1, 0, none⟩ = false := fr
              gi_wp2
              have hR' := ((unhide HR).drewN (nq + nq2)).set (b := w.heap.size + 1) (by omega) (by have := unhide ZK; have := unhide ZF; omega) (unhide Z34) hBp (.bool false)
              exact ⟨hR'.kf, rfl, ⟨false, boxed_set (boxed_drewN (unhide HI).cr (nq + nq2)) _, fun hp => absurd (unhide HX hp) hne⟩, hR'.bel⟩
          · have hA' : ((x.1.1 : Int) != (k : Int)) = true := by rw [bne_iff_ne]; omega
            have hne : x ≠ ((k, j), (op, ar)) := fun e => hA (by rw [e])
            gi_wp2
            refine wpIn_round_quiet_lit l rfl (by kernel_rfl) (by kernel_rfl) (by simp) ?_
            repeat (gi_big_quiet_step (fail))
            refine wpQuietIn_nil ?_
            intro _ hw'
            obtain ⟨nq, hw''⟩ := hw'
            subst hw''
            gi_wp2
            refine wpIn_round_quiet_lit l rfl (by kernel_rfl) (by kernel_rfl) (by simp) ?_
            repeat (gi_big_quiet_step (fail))
            refine wpQuietIn_nil ?_
            intro _ hw'
            obtain ⟨nq2, hw''⟩ := hw'
            subst hw''
            have cr2 : ((wr.drewN nq).drewN nq2).cell? ⟨w.heap.size + 1, 0, none⟩ = some (.bool false) := cr
            have fr2 : ((wr.drewN nq).drewN nq2).frozen? ⟨w.heap.size + 1, 0, none⟩ = false := fr
            gi_wp2
            have hR' := ((unhide HR).drewN (nq + nq2)).set (b := w.heap.size + 1) (by omega) (by have := unhide ZK; have := unhide ZF; omega) (unhide Z34) hBp (.bool false)
            exact ⟨hR'.kf, rfl, ⟨false, boxed_set (boxed_drewN (unhide HI).cr (nq + nq2)) _, fun hp => absurd (unhide HX hp) hne⟩, hR'.bel⟩
      · exfalso
        have hkn2 : k = n := by omega
        rw [e4 hkn2, hkn2, atI_zero] at e2
        rw [e2] at hlt
        omega
  case done =>
    rintro D ys W hD rfl hI hK
    have cm := hI.cm.cell
    have cn := hI.cn.cell
    have cr := hI.cr.cell
    have fr := hI.cr.frozen
    have hBel := hI.bel
    have hAr : AcA 0 hi W a n m := AcA.fr (unhide HA) (Fr.ofBelow hI.bel (fun _ => False)) q0_no
    have HAr := hide hAr
    have HI := hide hI
    clear hI hAr
    gi_wp2
    gi_loopw [11, 12] (fun al j wr => ∃ q : Nat, q ≤ n ∧ j = .int .i64 q ∧ al = .int .i64 (wrap64 ((itemsI (m.map Ac.cs) q).length : Nat)) ∧ wr = W) (fun al j _ => n - (intOf j).toNat)
    case atStart => exact ⟨0, Nat.zero_le _, rfl, by simp [itemsI, wrap64], rfl⟩
    case round =>
      obtain ⟨q, hq, rfl, rfl, rfl⟩ := hrel
      by_cases hqn : q < n
      · obtain ⟨b, off, s, y, rfl, _, _, hy, hS, g0, g1, g2, g3, g4⟩ := AcA.get (unhide HAr) hqn
        have hgd : (m.map Ac.cs).getD q [] = y.cs := by rw [List.getD_eq_getElem?_getD, List.getElem?_map, hy]; rfl
        have hcl := hS.cs.len
        have hqn' : (q : Int) < (n : Int) := by omega
        obtain ⟨z, hz⟩ : ∃ z : Int, wrap64 ((itemsI (m.map Ac.cs) q).length : Nat) = z := ⟨_, rfl⟩
        rw [hz]
        have HZ := hide hz
        have HE : Hid (((itemsI (m.map Ac.cs) (q + 1)).length : Int) = ((itemsI (m.map Ac.cs) q).length : Int) + ((s 3).2.1 : Int)) := hide (by rw [itemsI_succ]; unfold atI rowI; rw [hgd, List.length_append, List.length_map, List.length_range, hcl]; omega)
        clear hz hy hS hgd hcl
        gi_wp2
        go_roundw
        case rel => exact ⟨q + 1, by omega, by go_num, by rw [unhide HE, ← unhide HZ, wrap_add], trivial⟩
        case measure => simp [intOf]; omega
      · obtain rfl : q = n := by omega
        have hqq : (wrap64 ((itemsI (m.map Ac.cs) q).length : Nat) == wrap64 ((itemsI (m.map Ac.cs) q).length : Nat)) = true := by simp
        gi_wp2
        have hK' := (KeepsOthers.setCell wr ⟨w.heap.size + 1, 0, none⟩ (.bool true)).same D _ hK rfl
        refine ⟨by simp, .inl ⟨_, _, rfl, run_takeDeferred hK', ?_⟩⟩
        have hc5 := cell_kept (World.cell?_setCell_same' wr ⟨w.heap.size + 1, 0, none⟩ (.bool true) (by rw [cr]; rfl)) (grownBy_putObj' _ D (.deferred none)) (fun r e => by cases e; exact ⟨_, hK', rfl⟩)
        refine ⟨.bool true, ?_, rfl, (hBel.setCell (p := ⟨w.heap.size + 1, 0, none⟩) (by simp) _).trans (belowK_b (w := w) (Nat.le_refl _) _ D _ _ (by omega) hK' rfl rfl)⟩
        simp [results, Try.f4, go_sem, hc5]
  case stop =>
    rintro D cd pre W hD hpre ⟨hret, ⟨r, hb, hr⟩, hbel⟩ hK
    obtain rfl := hr hpre
    subst hret
    have cr := hb.cell
    gi_wp2
    refine ⟨by simp, .inl ⟨_, _, rfl, run_takeDeferred hK, ?_⟩⟩
    have hc5 := cell_kept cr (grownBy_putObj' _ D (.deferred none)) (fun r e => by cases e; exact ⟨_, hK, rfl⟩)
    refine ⟨.bool true, ?_, rfl, hbel.trans (belowK_b (w := w) (Nat.le_refl _) W D _ _ (by omega) hK rfl rfl)⟩
    simp [results, Try.f4, go_sem, hc5]

end Go.Proofs.Ythdpgachdegcgaa
