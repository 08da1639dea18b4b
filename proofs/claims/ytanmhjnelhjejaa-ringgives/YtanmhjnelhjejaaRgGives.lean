/-
  RingGives: Back gives all, the last one first; who leaves early has had just the first ones; a change meanwhile changes nothing of it.
-/
import Derived.Test.YtanmhjnelhjejaaRgGs
import Derived.Test.YtanmhjnelhjejaaRgBound
import Derived.Test.YtanmhjnelhjejaaQuietRound
import Derived.Shelf.RegionOpen
import Derived.Deep.RegionWith
namespace Go.Proofs.Ytanmhjnelhjejaa
open Go.RowKit Go.Shelf
attribute [local go_sem] Oper.semAt_some
set_option linter.unusedVariables false
set_option maxRecDepth 100000

/-- the same, and no panic -/
def noP (Q : Exit → Act → World → Prop) : Exit → Act → World → Prop
  | .panic _, _, _ => False
  | .outgrown, _, _ => False
  | .normal, a, w => Q .normal a w
  | .ret, a, w => Q .ret a w
  | .exit i, a, w => Q (.exit i) a w
  | .goto t, a, w => Q (.goto t) a w
theorem noP_imp {Q : Exit → Act → World → Prop} : ∀ e a w, noP Q e a w → Q e a w
  | .panic _, _, _, h => h.elim
  | .outgrown, _, _, h => h.elim
  | .normal, _, _, h => h
  | .ret, _, _, h => h
  | .exit _, _, _, h => h
  | .goto _, _, _, h => h

/-- all cells stand -/
def KC (W W' : World) : Prop := W.heap.size ≤ W'.heap.size ∧ ∀ (k : Nat) (cs : Array Value) (t : TypeId), W.heap[k]? = some (.cells cs t (0, 0)) → W'.heap[k]? = some (.cells cs t (0, 0))

theorem KC.of {W W' : World} {row : Option Nat} (hg : W.grownBy W' row) (hr : ∀ r, row = some r → ∃ o : Obj, W.heap[r]? = some o ∧ o.isCells = false) : KC W W' := by
  refine ⟨hg.size, fun b cs t h => ?_⟩
  by_cases e : some b = row
  · obtain ⟨o', ho', hc'⟩ := hr b e.symm
    rw [h] at ho'; cases ho'; cases hc'
  · rw [hg.block b (lt_of_blk h) e]; exact h

theorem KB.put {n : Nat} (W : World) (l : Nat) (o' : Obj) (hl : l < n) : KB n W (W.putObj l o') :=
  ⟨by simp [World.putObj], fun k o h1 h2 => by simp only [World.putObj]; rw [Array.getElem?_setIfInBounds, if_neg (by omega)]; exact h2⟩
theorem KB.fr {P : Nat → Prop} {n : Nat} {W W' : World} (h : Fr P W W') (hP : ∀ k, n ≤ k → ¬ P k) : KB n W W' := ⟨h.size, fun k o h1 h2 => h.blk h2 (hP k h1)⟩
theorem Lp.fr {P : Nat → Prop} {D : Nat} {r : Loop} {W W' : World} (h : Lp D r W) (hf : Fr P W W') (h1 : ¬ P D) (h2 : ¬ P (D + 1)) : Lp D r W' := ⟨hf.blk h.loop h2, hf.blk h.dfr h1⟩

/-- the document's list, as it stands -/
def MF (W : World) (M Bn : Nat) (l : List Int) : Prop :=
  ∃ a c s, W.heap[M]? = some (.cells #[.slice a l.length c, s] 31 (0, 0)) ∧ l.length ≤ c ∧ ∀ (i : Nat) (x : Int), l[i]? = some x → ∃ g off cur, a = some ⟨g, off, none⟩ ∧ M ≤ g ∧ g < Bn ∧ W.heap[g]? = some (.cells cur 3 (0, 0)) ∧ cur[off + i]? = some (Value.int .i64 x)

theorem MF.fr {P : Nat → Prop} {W W' : World} {M Bn : Nat} {l : List Int} (h : MF W M Bn l) (hf : Fr P W W') (hM : M < Bn) (hP : ∀ k, M ≤ k → k < Bn → ¬ P k) : MF W' M Bn l := by
  obtain ⟨a, c, s, h1, h0, h2⟩ := h
  refine ⟨a, c, s, hf.blk h1 (hP M (Nat.le_refl _) hM), h0, fun i x hx => ?_⟩
  obtain ⟨g, off, cur, g1, g2, g3, g4, g5⟩ := h2 i x hx
  exact ⟨g, off, cur, g1, g2, g3, hf.blk g4 (hP g g2 g3), g5⟩
theorem MF.kc {W W' : World} {M Bn : Nat} {l : List Int} (h : MF W M Bn l) (hk : KC W W') : MF W' M Bn l := by
  obtain ⟨a, c, s, h1, h0, h2⟩ := h
  refine ⟨a, c, s, hk.2 _ _ _ h1, h0, fun i x hx => ?_⟩
  obtain ⟨g, off, cur, g1, g2, g3, g4, g5⟩ := h2 i x hx
  exact ⟨g, off, cur, g1, g2, g3, hk.2 _ _ _ g4, g5⟩
theorem MF.of {W : World} {M S : Nat} {l : List Int} (h : IsM W M S l) : MF W M W.heap.size l := by
  obtain ⟨v, h1, ⟨h2, a, cap, rfl, h3, h4, h5⟩, _⟩ := h
  refine ⟨a, cap, _, h1, h3, fun i x hx => ?_⟩
  have hi := (List.getElem?_eq_some_iff.1 hx).1
  rcases h5 with ⟨_, h5⟩ | ⟨g, off, cur, rfl, g1, g2, g3, g4⟩
  · omega
  · exact ⟨g, off, cur, rfl, g1, lt_of_blk g2, g2, g4 i _ (by unfold rowV2; rw [List.getElem?_map, hx]; rfl)⟩
theorem Rg.kc {W W' : World} {b g S : Nat} {l : List Int} (h : Rg W b g S l) (hk : KC W W') : Rg W' b g S l := by
  obtain ⟨f, h⟩ := h
  obtain ⟨cs, h1, h2⟩ := h.row
  exact ⟨f, hk.2 _ _ _ h.blk, ⟨cs, hk.2 _ _ _ h1, h2⟩, h.pos, h.len, h.most, h.ne⟩
theorem Bxs.kc {w0 G M Br : Nat} {leave : Int} {W W' : World} (h : Bxs w0 G M Br leave W) (hk : KC W W') : Bxs w0 G M Br leave W' :=
  ⟨hk.2 _ _ _ h.1, hk.2 _ _ _ h.2.1, hk.2 _ _ _ h.2.2.1, hk.2 _ _ _ h.2.2.2.1, h.2.2.2.2⟩

theorem backs_len (l : List Int) : (backs l).length = l.length := by unfold backs; rw [List.length_map, bitems_len]
theorem backs_at {l pre : List Int} {x : Int} (h : pre ++ [x] <+: backs l) : l[l.length - 1 - pre.length]? = some x := by
  obtain ⟨s, hs⟩ := h
  have e : (backs l)[pre.length]? = some x := by rw [← hs]; simp
  have hl : pre.length < l.length := by
    have := congrArg List.length hs
    rw [backs_len] at this
    simp at this
    omega
  unfold backs bitems at e
  rw [List.map_map, List.getElem?_map, List.getElem?_range hl] at e
  have hlt : l.length - 1 - pre.length < l.length := by omega
  simp only [Function.comp, Option.map_some, Option.some.injEq] at e
  rw [List.getD_eq_getElem?_getD, List.getElem?_eq_getElem hlt] at e
  rw [List.getElem?_eq_getElem hlt, ← e]
  rfl

/-- the law between two rounds of its last loop -/
def GJ (w : World) (G M S Br : Nat) (leave : Int) (l : List Int) (Bn : Nat) (pre : List Int) (V : World) : Prop :=
  Boxed V Bn 3 (.int .i64 (pre.length : Int)) ∧ MF V M Bn l ∧ Rg V (G + 1) G S (l.drop pre.length) ∧ Bxs w.heap.size G M Br leave V ∧ Below w.heap.size w V
theorem GJ.own (w : World) (G M S Br : Nat) (leave : Int) (l : List Int) (Bn : Nat) {B : Nat} (hB : w.heap.size ≤ B) : OwnFrom B (GJ w G M S Br leave l Bn) := by
  intro s W W' row h hg hr
  have hk := KC.of hg (fun r e => (hr r e).2)
  exact ⟨hk.2 _ _ _ h.1, h.2.1.kc hk, h.2.2.1.kc hk, h.2.2.2.1.kc hk, ownFrom_below (β := Unit) (Nat.le_refl _) hB () W W' row h.2.2.2.2 hg hr⟩
/-- a round has left -/
def GX (w : World) (G M S Br : Nat) (leave : Int) (l : List Int) (Bn : Nat) (c : Code) (pre : List Int) (V : World) : Prop :=
  pre <+: backs l → c = .exit 2 ∧ (pre.length : Int) = leave ∧ Boxed V Bn 3 (.int .i64 (pre.length : Int)) ∧ MF V M Bn l ∧ Bxs w.heap.size G M Br leave V ∧ Below w.heap.size w V
theorem GX.own (w : World) (G M S Br : Nat) (leave : Int) (l : List Int) (Bn : Nat) (c : Code) {B : Nat} (hB : w.heap.size ≤ B) : OwnFrom B (GX w G M S Br leave l Bn c) := by
  intro s W W' row h hg hr hp
  obtain ⟨h1, h2, h3, h4, h5, h6⟩ := h hp
  have hk := KC.of hg (fun r e => (hr r e).2)
  exact ⟨h1, h2, hk.2 _ _ _ h3, h4.kc hk, h5.kc hk, ownFrom_below (β := Unit) (Nat.le_refl _) hB () W W' row h6 hg hr⟩

/-- the last loop's count goes on -/
theorem gj_set {w W V : World} {G M S Br Bn nq : Nat} {leave : Int} {l l' : List Int} {v u : Value} (hn : Boxed W Bn 3 v) (hm : MF W M Bn l) (hR : Rg W (G + 1) G S l') (hX : Bxs w.heap.size G M Br leave W) (hB : Below w.heap.size w W)
    (h1 : G + 1 < M) (h3 : Br + 1 < Bn) (hV : V = (W.drewN nq).setCell ⟨Bn, 0, none⟩ u) :
    Boxed V Bn 3 u ∧ MF V M Bn l ∧ Rg V (G + 1) G S l' ∧ Bxs w.heap.size G M Br leave V ∧ Below w.heap.size w V ∧ Fr (fun k => k = Bn) W V := by
  have a1 := hX.2.2.2.2.1
  have a2 := hX.2.2.2.2.2
  have f : Fr (fun k => k = Bn) W V := by rw [hV]; exact ((Fr.refl (fun k => k = Bn) W).drewN nq).trans (Fr.set1 (W.drewN nq) Bn 0 u) (fun _ _ h => h) (fun _ _ h => h)
  refine ⟨?_, hm.fr f (by omega) (fun k _ h => by omega), hR.fr f (by omega) (by omega), hX.fr f (by omega) (by omega) (by omega) (by omega), hB.trans (f.below hB.size (fun k h => by omega)), f⟩
  rw [hV]
  exact Boxed.set u (show Boxed (W.drewN nq) Bn 3 v from hn)

/-- a Take there -/
theorem gj_take {w W : World} {G M S Br Bn : Nat} {leave : Int} {l : List Int} {z : Int} {l' : List Int} {u : Value} (hn : Boxed W Bn 3 u) (hm : MF W M Bn l) (hR : Rg W (G + 1) G S (z :: l')) (hX : Bxs w.heap.size G M Br leave W) (hB : Below w.heap.size w W)
    (h1 : G + 1 < M) (h3 : Br + 1 < Bn) :
    Calls Try.prog 18 #[.pointer (some ⟨G + 1, 0, none⟩)] W fun e V => e = .returned (.tuple #[.int .i64 z, .bool true]) ∧
      Boxed V Bn 3 u ∧ MF V M Bn l ∧ Rg V (G + 1) G S l' ∧ Bxs w.heap.size G M Br leave V ∧ Below w.heap.size w V ∧ FrR (G + 1) G W V := by
  have a1 := hX.2.2.2.2.1
  have a2 := hX.2.2.2.2.2
  exact (rtake_some hR).mono fun e V ⟨g1, g2, f⟩ => ⟨g1, f.blk hn (by omega), hm.fr f (by omega) (fun k _ h => by omega), g2, hX.fr f (by omega) (by omega) (by omega) (by omega), hB.trans (f.below hB.size (fun k h => by omega)), f⟩

set_option maxHeartbeats 20000000 in
theorem gives_calls {w : World} (size leave : Int) {a1 : Option Addr} {n1 k1 : Nat} {ops : List (Int × Int)} (A1 : PrA w.heap.size w a1 n1 ops) :
    Calls Try.prog 4 #[.int .i64 size, .slice a1 n1 k1, .int .i64 leave] w fun e w' => e = .returned (.bool true) ∧ Below w.heap.size w w' := by
  have s1 := A1.small
  have hmo : Try.prog.follows .mixedOrders = true := by kernel_rfl
  refine (callsIn_wide (n := 6)).1 ?_
  refine callsIn_of_wp_marks Try.func4 rfl trivial ?_ rfl
  simp only [Try.ntmps4, List.size_toArray, List.length_cons, List.length_nil, Nat.reduceAdd, Nat.reduceSub, Array.replicate_succ, Array.replicate_zero, List.push_toArray, List.append_toArray, List.nil_append, List.cons_append]
  refine wpIn_mono (Q := noP _) ?_ noP_imp
  have b0 := Boxed.new w 3 (.int .i64 leave)
  have b1 := Boxed.new (w.alloc (.cells #[.int .i64 leave] 3)) 4 (.bool false)
  have bb0 := b0.alloc (.cells #[.bool false] 4)
  have zz : ((w.alloc (.cells #[.int .i64 leave] 3)).alloc (.cells #[.bool false] 4)).heap.size = w.heap.size + 2 := by simp
  have hFz : Fr (fun _ => False) w ((w.alloc (.cells #[.int .i64 leave] 3)).alloc (.cells #[.bool false] 4)) := ((Fr.refl _ w).alloc _).alloc _
  simp only [World.size_alloc] at b1
  gi_wp2_with (first
    | (refine ⟨trivial, ?_⟩; gi_at_call 9; refine (callsIn_wide.2 (lives_calls _)).mono ?_; rintro e w1 ⟨rfl, hF0⟩)
    | (refine ⟨trivial, ?_⟩; gi_at_call 10; refine (callsIn_wide.2 (rnew2 _ _)).mono ?_; rintro e w2 ⟨G, S, hG0, hS0, rfl, hR, hF⟩)
    | (refine ⟨trivial, ?_⟩; gi_at_call 11; refine (callsIn_wide.2 (mnew2 (unhide hS0) _)).mono ?_; rintro e w3 ⟨M, hM0, rfl, hM, hF3⟩))
  have hGS : GS w G M S w3.heap.size leave [] [] ((w3.alloc (.cells #[.pointer (some ⟨G + 1, 0, none⟩)] 24)).alloc (.cells #[.pointer (some ⟨M, 0, none⟩)] 26)) := by
    have hG : w.heap.size + 2 ≤ G := by rw [← hG0.out, ← zz]; exact hF0.size
    have hGM : G + 1 < M := by rw [← hM0.out]; obtain ⟨f, h⟩ := hR; exact lt_of_blk h.blk
    have q1 := hF0.trans hF (fun _ _ h => h) (fun _ _ h => h)
    have q2 := q1.trans hF3 (fun _ _ h => h) (fun _ _ h => h)
    have q3 : Fr (fun _ => False) w3 ((w3.alloc (.cells #[.pointer (some ⟨G + 1, 0, none⟩)] 24)).alloc (.cells #[.pointer (some ⟨M, 0, none⟩)] 26)) := ((Fr.refl _ w3).alloc _).alloc _
    have q4 := q2.trans q3 (fun _ _ h => h) (fun _ _ h => h)
    have bm := Boxed.new (w3.alloc (.cells #[.pointer (some ⟨G + 1, 0, none⟩)] 24)) 26 (.pointer (some ⟨M, 0, none⟩))
    rw [World.size_alloc] at bm
    exact ⟨⟨(hR.fr hF3 (fun h => h) (fun h => h)).fr q3 (fun h => h) (fun h => h), hM.fr q3 (fun _ _ h => h), hGM, hFz.trans q4 (fun _ _ h => h) (fun _ _ h => h), by omega⟩,
      q4.blk bb0 (fun h => h), q4.blk b1 (fun h => h), (Boxed.new w3 _ _).alloc _, bm, hG, hM.lt⟩
  have hS1 := clamp_pos size
  have hS2 := clamp_most size
  rw [hS0.out] at hS1 hS2
  generalize (w3.alloc (.cells #[.pointer (some ⟨G + 1, 0, none⟩)] 24)).alloc (.cells #[.pointer (some ⟨M, 0, none⟩)] 26) = w4 at *
  generalize w3.heap.size = Br at *
  clear hG0 hS0 hF0 hM0 hR hF hM hF3 b0 b1 bb0 zz hFz
  gi_loopw [9] (fun i wr => ∃ (k : Nat) (l : List Int), k ≤ n1 ∧ i = .int .i64 k ∧ GS w G M S Br leave l l wr) (fun i _ => n1 - (intOf i).toNat)
  case atStart => exact ⟨0, [], Nat.zero_le _, rfl, hGS⟩
  case round =>
    clear hGS
    obtain ⟨k, l, hk, rfl, hGS⟩ := hrel
    by_cases hlt : k < n1
    · have hPF := hGS.1.2.2.2.1
      obtain ⟨ba, off, ⟨kk, x⟩, vs, rfl, hba, hx, hc, rfl, _, _⟩ := (A1.fr hPF (fun _ h => h.elim)).at hlt
      have d0 : wr.cell? ⟨ba, off + k * 2, none⟩ = some (.int .i64 kk) := by simpa using hc 0 _ rfl
      have d1 : wr.cell? ⟨ba, off + k * 2 + 1, none⟩ = some (.int .i64 x) := by simpa using hc 1 _ rfl
      have hlt' : (k : Int) < (n1 : Int) := by omega
      have hba1 := hGS.2.2.2.2.2
      have hba2 := hGS.1.2.2.1
      have cR := hGS.2.2.2.1.cell
      have cM := hGS.2.2.2.2.1.cell
      have hx0 := hx
      clear hx hc
      by_cases hkd : kd kk = 1
      · have hkd0 : (kd kk == 1) = true := by simp [hkd]
        gi_wp2_with (refine ⟨trivial, ?_⟩; gi_at_call 13; refine (callsIn_wide.2 (kind_calls kk x _)).mono ?_; rintro e w5 ⟨rfl, hF5⟩; have hG5 := hGS.q hF5; have e0 := cell_fr hF5 (fun h => h) d0; have e1 := cell_fr hF5 (fun h => h) d1; have eR := hG5.2.2.2.1.cell; have eM := hG5.2.2.2.2.1.cell)
        refine wpIn_wide.2 ?_
        go_region_with (go_at_call 16; refine (gs_rpush (hG5.q (Fr.refl _ _).drew) _).mono ?_; rintro e w6 ⟨rfl, hG6⟩; have hA6 := (A1.fr hG6.1.2.2.2.1 (fun _ h => h.elim)).at hlt; have eM6 := hG6.2.2.2.2.1.cell)
        all_goals
          obtain ⟨ba2, off2, x2, vs2, hh1, _, hh2, hh3, rfl, _, _⟩ := hA6
          cases hh1
          rw [hx0] at hh2
          cases hh2
          have g1 : w6.cell? ⟨ba, off + k * 2 + 1, none⟩ = some (.int .i64 x) := by simpa using hh3 1 _ rfl
          clear hh3
          gi_wp2
          refine wpIn_wide.2 ?_
          go_region_with (go_at_call 17; refine (gs_mpush (hG6.q (Fr.refl _ _).drew) _).mono ?_; rintro e w7 ⟨rfl, hG7⟩)
          all_goals
            gi_wp2
            go_roundw
            case rel => exact ⟨k + 1, pushL S l x, by omega, by go_num, hG7⟩
            case measure => simp [intOf]; omega
      · have hkd0 : (kd kk == 1) = false := by simp [hkd]
        gi_wp2_with (refine ⟨trivial, ?_⟩; gi_at_call 13; refine (callsIn_wide.2 (kind_calls kk x _)).mono ?_; rintro e w5 ⟨rfl, hF5⟩; have hG5 := hGS.q hF5; have e0 := cell_fr hF5 (fun h => h) d0; have e1 := cell_fr hF5 (fun h => h) d1; have eR := hG5.2.2.2.1.cell; have eM := hG5.2.2.2.2.1.cell)
        refine wpIn_wide.2 ?_
        go_region_with (go_at_call 14; refine (gs_rput (hG5.q (Fr.refl _ _).drew) _).mono ?_; rintro e w6 ⟨rfl, hG6⟩; have hA6 := (A1.fr hG6.1.2.2.2.1 (fun _ h => h.elim)).at hlt; have eM6 := hG6.2.2.2.2.1.cell)
        all_goals
          obtain ⟨ba2, off2, x2, vs2, hh1, _, hh2, hh3, rfl, _, _⟩ := hA6
          cases hh1
          rw [hx0] at hh2
          cases hh2
          have g1 : w6.cell? ⟨ba, off + k * 2 + 1, none⟩ = some (.int .i64 x) := by simpa using hh3 1 _ rfl
          clear hh3
          gi_wp2
          refine wpIn_wide.2 ?_
          go_region_with (go_at_call 15; refine (gs_mput (hG6.q (Fr.refl _ _).drew) _).mono ?_; rintro e w7 ⟨rfl, hG7⟩)
          all_goals
            gi_wp2
            go_roundw
            case rel => exact ⟨k + 1, putL S l x, by omega, by go_num, hG7⟩
            case measure => simp [intOf]; omega
    · --E
      obtain rfl : k = n1 := by omega
      have cR := hGS.2.2.2.1.cell
      have hls := hGS.2.2.2.2.1.lt
      have hls0 : Br < wr.heap.size := by omega
      have hbr := hGS.2.2.2.2.2
      have hGM := hGS.1.2.2.1
      have hl5 : l.length ≤ 4096 := by obtain ⟨f, h⟩ := hGS.1.1; have := h.len; have := h.most; omega
      clear hlt
      gi_wp2_with (refine ⟨trivial, ?_⟩; gi_at_call 27; refine (callsIn_wide.2 (back_in _ _)).mono ?_; rintro e w' ⟨rfl, rfl⟩)
      have q0 := (Boxed.new wr 3 (.int .i64 0)).alloc (.cells #[.pointer (some ⟨G + 1, 0, none⟩)] 24)
      have q1 := Boxed.new (wr.alloc (.cells #[.int .i64 0] 3)) 24 (.pointer (some ⟨G + 1, 0, none⟩))
      rw [World.size_alloc] at q1
      have hm0 := (MF.of hGS.1.2.1).fr (((Fr.refl (fun _ => False) wr).alloc (.cells #[.int .i64 0] 3)).alloc (.cells #[.pointer (some ⟨G + 1, 0, none⟩)] 24)) (by omega) (fun _ _ _ h => h)
      have hG0 := hGS.q (((Fr.refl (fun _ => False) wr).alloc (.cells #[.int .i64 0] 3)).alloc (.cells #[.pointer (some ⟨G + 1, 0, none⟩)] 24))
      have hz0 : ((wr.alloc (.cells #[.int .i64 0] 3)).alloc (.cells #[.pointer (some ⟨G + 1, 0, none⟩)] 24)).heap.size = wr.heap.size + 2 := by simp
      generalize (wr.alloc (.cells #[.int .i64 0] 3)).alloc (.cells #[.pointer (some ⟨G + 1, 0, none⟩)] 24) = W0 at *
      generalize wr.heap.size = Bn at *
      clear hGS cR
      have hBn := q1.lt
      have hBr1 : Br + 1 < Bn := hls
      clear hz0 hls hls0
      have hW0 : Below w.heap.size w W0 := hG0.1.2.2.2.1.below (Nat.le_refl _) (fun _ _ h => h)
      refine wpIn_range_seqOwn (α := Int) rfl (by omega) (gf := 44) (lb := #[.pointer (some ⟨Bn + 1, 0, none⟩)]) rfl trivial (enters_of Try.func44 (by kernel_rfl) rfl)
        (back1_own 5 (by omega) (W0.heap.size + 2) (Bn + 1) (some ⟨G + 1, 0, none⟩) l W0 hl5 (Nat.le_refl _) q1 (fun W hW => by
          obtain ⟨f, h⟩ := hG0.1.1
          have h' := h.fr (Fr.ofBelow hW (fun _ => False)) (fun e => e) (fun e => e)
          exact things_calls h' (lt_of_blk h'.blk) (by obtain ⟨cs, h1, _⟩ := h'.row; exact lt_of_blk h1)))
        (Below.refl _ _) (fun _ => rfl) KB.trans (fun W r r' _ => KB.put W _ _ (by omega))
        (GJ w G M S Br leave l Bn) (GX w G M S Br leave l Bn) (GJ.own w G M S Br leave l Bn hW0.size) (fun c => GX.own w G M S Br leave l Bn c hW0.size)
        ⟨q0, hm0, hG0.1.1, hG0.2, hW0⟩
        (fun x => { tmps := #[.int .i64 size, .slice a1 k k1, .int .i64 leave, undef, undef, .pointer (some ⟨w.heap.size, 0, none⟩), .pointer (some ⟨w.heap.size + 1, 0, none⟩), .pointer (some ⟨Br, 0, none⟩), .pointer (some ⟨Br + 1, 0, none⟩), .int .i64 (k : Int), .pointer (some ⟨Bn, 0, none⟩), .int .i64 x, .bool true, .bool false, .int .i64 size, .pointer (some ⟨G + 1, 0, none⟩), .int .i64 size, .pointer (some ⟨M, 0, none⟩), .int .i64 (k : Int), .slice a1 k k1, .int .i64 (k : Int), .bool false, u22, u23, u24, u25, u26, u27, u28, u29, u30, u31, u32, u33, u34, u35, u36, u37, u38, u39, u40, u41, u42, u43, u44, u45, u46, u47, u48, u49, u50, u51, u52, u53, u54, u55, u56, u57, .pointer (some ⟨G + 1, 0, none⟩), .func (.func 44) #[] #[.pointer (some ⟨Bn + 1, 0, none⟩)], .int .i64 x, undef, undef, undef, undef, undef, undef, undef, undef, undef, undef, undef, undef, undef, undef, undef, undef, undef, undef, undef, undef, undef, undef, undef, undef, undef, undef, undef, undef, undef, undef, undef, undef, undef, undef, undef, undef, undef, undef, undef, undef, undef, undef, undef, undef], defers := [] }) ?assign ?body ?done ?stop
      case assign =>
        intro x W K hK
        dsimp only [encB]
        gi_wp2
        exact hK
      case body =>
        rintro r pre x W hLp ⟨hn, hm, hR, hX, hB⟩ hlt
        obtain ⟨am, cm, sm, hb, hcm, hv⟩ := id hm
        obtain ⟨m, hmm⟩ : ∃ m, l.length - 1 - pre.length = m := ⟨_, rfl⟩
        obtain ⟨y, hy⟩ : ∃ y, l[m]? = some y := ⟨l[m]'(by omega), List.getElem?_eq_getElem _⟩
        obtain ⟨gm, om, cur, rfl, g1, g2, g3, g4⟩ := hv m y hy
        have ce : W.cell? ⟨gm, om + m, none⟩ = some (.int .i64 y) := (cell_at g3 _).trans g4
        have m0 := (cell_at hb 0).trans rfl
        have hdr : l.drop pre.length = l[pre.length] :: l.drop (pre.length + 1) := List.drop_eq_getElem_cons hlt
        have hfn : ∀ v, Fr (fun k => k = Bn) W (W.setCell ⟨Bn, 0, none⟩ v) := fun v => Fr.set1 W Bn 0 v
        have hpx : ((pre ++ [x]).length : Int) = (pre.length : Int) + 1 := by simp
        have hzy : pre ++ [x] <+: backs l → x = y := fun h => by
          have h2 := backs_at h
          rw [hmm, hy] at h2
          exact (Option.some.inj h2).symm
        have cn := hn.cell
        have fn := hn.frozen
        have cR := hX.2.2.1.cell
        have cM := hX.2.2.2.1.cell
        have cl := hX.1.cell
        have cA := hX.2.1.cell
        have fA := hX.2.1.frozen
        have ltn := hn.lt
        have ltR := hX.2.2.1.lt
        have ltM := hX.2.2.2.1.lt
        have ltl := hX.1.lt
        have ltA := hX.2.1.lt
        have hw0 := hX.2.2.2.2.1
        have HN := hide hn
        have HM := hide hm
        have HX := hide hX
        have HB := hide hB
        have HR := hide hR
        have HV := hide hzy
        have HP := hide hpx
        have HLP := hide hLp
        clear hn hm hX hB hR hv hb hy g3 g4 hzy hpx hLp
        obtain ⟨p, hp⟩ : ∃ p, pre.length = p := ⟨_, rfl⟩
        obtain ⟨N, hN⟩ : ∃ N, l.length = N := ⟨_, rfl⟩
        simp only [hp, hN] at hlt hmm m0 cn hcm hl5
        have hmi : (N : Int) - 1 - (p : Int) = (m : Int) := by omega
        have hd : decide ((N : Int) ≤ (p : Int)) = false := decide_eq_false (by omega)
        have hd2 : decide (N ≤ p) = false := decide_eq_false (by omega)
        have hd3 : ¬ N ≤ p := by omega
        have hmN : (m : Int) < (N : Int) := by omega
        have HPP := hide hp
        have HNN := hide hN
        clear hp hN hmm
        by_cases hxy : x = y
        · subst hxy
          have hE : ((pre ++ [x]).length : Int) = (p : Int) + 1 := by have := unhide HP; rw [HPP.out] at this; exact this
          have HE := hide hE
          clear hE
          by_cases hle : (p : Int) + 1 = leave
          · subst hle
            gi_wp2
            refine wpIn_round_quiet_lit (W0.heap.size + 1) rfl (by kernel_rfl) (by kernel_rfl) (by simp) ?_
            repeat (gi_big_quiet_step (fail))
            refine wpQuietIn_nil ?_
            rintro _ ⟨nq, rfl⟩
            gi_wp2
            obtain ⟨s1, s2, s3, s4, s5, f⟩ := gj_set (u := .int .i64 ((p : Int) + 1)) (unhide HN) (unhide HM) (unhide HR) (unhide HX) (unhide HB) hGM hBr1 rfl
            exact ⟨(unhide HLP).fr f (by omega) (by omega), KB.fr f (fun k h => by omega), fun _ => ⟨rfl, HE.out, by rw [HE.out]; exact s1, s2, s4, s5⟩⟩
          · have hle' : ((p : Int) + 1 == leave) = false := by simpa using hle
            have HT := hide (fun nq => gj_set (nq := nq) (u := .int .i64 ((p : Int) + 1)) (unhide HN) (unhide HM) (unhide HR) (unhide HX) (unhide HB) hGM hBr1 rfl)
            gi_wp2
            refine wpIn_round_quiet_lit (W0.heap.size + 1) rfl (by kernel_rfl) (by kernel_rfl) (by simp) ?_
            repeat (gi_big_quiet_step (fail))
            refine wpQuietIn_nil ?_
            rintro _ ⟨nq, rfl⟩
            obtain ⟨s1, s2, s3, s4, s5, f⟩ := unhide HT nq
            rw [hdr] at s3
            have HK := hide (gj_take s1 s2 s3 s4 s5 hGM hBr1)
            have HF := hide f
            clear s1 s2 s3 s4 s5 f HT hdr
            gi_wp2_with (refine ⟨trivial, ?_⟩; gi_at_call 18; refine (CallsIn.inRound _ (callsIn_wide.2 (unhide HK))).mono ?_; rintro e w8 ⟨rfl, t1, t2, t3, t4, t5, f2⟩)
            have f := unhide HF
            refine ⟨((unhide HLP).fr f (by omega) (by omega)).fr f2 (by omega) (by omega), (KB.fr f (fun k h => by omega)).trans (KB.fr f2 (fun k h => by omega)), by rw [HE.out]; exact t1, t2, ?_, t4, t5⟩
            have e : (pre ++ [x]).length = pre.length + 1 := by simp
            rw [e]
            exact t3
        · have hxy' : (x != y) = true := by simpa using hxy
          gi_wp2
          refine wpIn_round_quiet_lit (W0.heap.size + 1) rfl (by kernel_rfl) (by kernel_rfl) (by simp) ?_
          repeat (gi_big_quiet_step (fail))
          refine wpQuietIn_nil ?_
          rintro _ ⟨nq, rfl⟩
          gi_wp2
          have f : Fr (fun k => k = w.heap.size + 1) W ((W.drewN nq).setCell ⟨w.heap.size + 1, 0, none⟩ (.bool false)) := ((Fr.refl (fun k => k = w.heap.size + 1) W).drewN nq).trans (Fr.set1 (W.drewN nq) (w.heap.size + 1) 0 (.bool false)) (fun _ _ h => h) (fun _ _ h => h)
          exact ⟨(unhide HLP).fr f (by omega) (by omega), KB.fr f (fun k h => by omega), fun h => absurd (HV.out h) hxy⟩
      case done =>
        rintro xs V rfl ⟨hn, hm, hR, hX, hB⟩ hK
        rw [backs_len] at hn
        obtain ⟨am, cm, sm, hb, hcm, _⟩ := hm
        have m0 := (cell_at hb 0).trans rfl
        have cn := hn.cell
        have cM := hX.2.2.2.1.cell
        have cl := hX.1.cell
        have cA := hX.2.1.cell
        have fA := hX.2.1.frozen
        have ltn := hn.lt
        have ltM := hX.2.2.2.1.lt
        have ltl := hX.1.lt
        have ltA := hX.2.1.lt
        have HB := hide hB
        have HK := hide hK
        have HA := hide hX.2.1
        clear hn hR hX hB hb hK
        obtain ⟨N, hN⟩ : ∃ N, l.length = N := ⟨_, rfl⟩
        simp only [hN] at m0 cn hcm hl5
        clear hN
        have hself : ((N : Int) == (N : Int)) = true := by simp
        gi_wp2
        refine wpIn_wide.2 ?_
        go_region
        gi_wp2
        obtain ⟨V2, hV2⟩ : ∃ V2, (V.setCell ⟨w.heap.size + 1, 0, none⟩ (.bool true)).drew = V2 := ⟨_, rfl⟩
        have hK2 : V2.heap[W0.heap.size]? = some (.deferred (some [])) := by rw [← hV2]; exact (KeepsOthers.setCell V ⟨w.heap.size + 1, 0, none⟩ (.bool true)).same W0.heap.size _ (unhide HK) rfl
        have hA2 : Boxed V2 (w.heap.size + 1) 4 (.bool true) := by rw [← hV2]; exact Boxed.set (.bool true) (unhide HA)
        have hB1 : Below w.heap.size w (V.setCell ⟨w.heap.size + 1, 0, none⟩ (.bool true)) := (unhide HB).setCell (p := ⟨w.heap.size + 1, 0, none⟩) (by show w.heap.size ≤ w.heap.size + 1; omega) _
        have hB2 : Below w.heap.size w V2 := by rw [← hV2]; exact hB1.trans (((Fr.refl (fun _ => False) _).drew).below hB1.size (fun _ _ h => h))
        rw [hV2]
        refine ⟨by simp, .inl ⟨_, _, rfl, run_takeDeferred hK2, ?_⟩⟩
        have hc5 := cell_kept hA2.cell (grownBy_putObj' _ W0.heap.size (.deferred none)) (fun r e => by cases e; exact ⟨_, hK2, rfl⟩)
        refine ⟨.bool true, ?_, rfl, ?_⟩
        · simp [results, Try.f4, go_sem, hc5]
        · exact hB2.trans (belowK_b (w := w) (Nat.le_refl _) _ W0.heap.size _ _ (by omega) hK2 rfl rfl)
      case stop =>
        rintro c pre V hpre h hK
        obtain ⟨rfl, hle, hn, hm, hX, hB⟩ := h hpre
        obtain ⟨am, cm, sm, hb, hcm, _⟩ := hm
        have m0 := (cell_at hb 0).trans rfl
        have cn := hn.cell
        have cM := hX.2.2.2.1.cell
        have cl := hX.1.cell
        have cA := hX.2.1.cell
        have fA := hX.2.1.frozen
        have ltn := hn.lt
        have ltM := hX.2.2.2.1.lt
        have ltl := hX.1.lt
        have ltA := hX.2.1.lt
        have HB := hide hB
        have HK := hide hK
        have HA := hide hX.2.1
        clear hn hX hB hb hK h hpre
        obtain ⟨N, hN⟩ : ∃ N, l.length = N := ⟨_, rfl⟩
        simp only [hN] at m0 hcm hl5
        obtain ⟨p, hp⟩ : ∃ p, pre.length = p := ⟨_, rfl⟩
        simp only [hp] at cn hle
        subst hle
        clear hN hp
        by_cases hpN : p = N
        · subst hpN
          gi_wp2
          refine wpIn_wide.2 ?_
          go_region
          gi_wp2
          obtain ⟨V2, hV2⟩ : ∃ V2, (V.setCell ⟨w.heap.size + 1, 0, none⟩ (.bool true)).drew = V2 := ⟨_, rfl⟩
          have hK2 : V2.heap[W0.heap.size]? = some (.deferred (some [])) := by rw [← hV2]; exact (KeepsOthers.setCell V ⟨w.heap.size + 1, 0, none⟩ (.bool true)).same W0.heap.size _ (unhide HK) rfl
          have hA2 : Boxed V2 (w.heap.size + 1) 4 (.bool true) := by rw [← hV2]; exact Boxed.set (.bool true) (unhide HA)
          have hB1 : Below w.heap.size w (V.setCell ⟨w.heap.size + 1, 0, none⟩ (.bool true)) := (unhide HB).setCell (p := ⟨w.heap.size + 1, 0, none⟩) (by show w.heap.size ≤ w.heap.size + 1; omega) _
          have hB2 : Below w.heap.size w V2 := by rw [← hV2]; exact hB1.trans (((Fr.refl (fun _ => False) _).drew).below hB1.size (fun _ _ h => h))
          rw [hV2]
          refine ⟨by simp, .inl ⟨_, _, rfl, run_takeDeferred hK2, ?_⟩⟩
          have hc5 := cell_kept hA2.cell (grownBy_putObj' _ W0.heap.size (.deferred none)) (fun r e => by cases e; exact ⟨_, hK2, rfl⟩)
          refine ⟨.bool true, ?_, rfl, ?_⟩
          · simp [results, Try.f4, go_sem, hc5]
          · exact hB2.trans (belowK_b (w := w) (Nat.le_refl _) _ W0.heap.size _ _ (by omega) hK2 rfl rfl)
        · have hd : ((p : Int) == (N : Int)) = false := beq_eq_false_iff_ne.2 (by omega)
          gi_wp2
          refine wpIn_wide.2 ?_
          go_region
          all_goals
            gi_wp2
            obtain ⟨V2, hV2⟩ : ∃ V2, (V.setCell ⟨w.heap.size + 1, 0, none⟩ (.bool true)).drew = V2 := ⟨_, rfl⟩
            have hK2 : V2.heap[W0.heap.size]? = some (.deferred (some [])) := by rw [← hV2]; exact (KeepsOthers.setCell V ⟨w.heap.size + 1, 0, none⟩ (.bool true)).same W0.heap.size _ (unhide HK) rfl
            have hA2 : Boxed V2 (w.heap.size + 1) 4 (.bool true) := by rw [← hV2]; exact Boxed.set (.bool true) (unhide HA)
            have hB1 : Below w.heap.size w (V.setCell ⟨w.heap.size + 1, 0, none⟩ (.bool true)) := (unhide HB).setCell (p := ⟨w.heap.size + 1, 0, none⟩) (by show w.heap.size ≤ w.heap.size + 1; omega) _
            have hB2 : Below w.heap.size w V2 := by rw [← hV2]; exact hB1.trans (((Fr.refl (fun _ => False) _).drew).below hB1.size (fun _ _ h => h))
            rw [hV2]
            refine ⟨by simp, .inl ⟨_, _, rfl, run_takeDeferred hK2, ?_⟩⟩
            have hc5 := cell_kept hA2.cell (grownBy_putObj' _ W0.heap.size (.deferred none)) (fun r e => by cases e; exact ⟨_, hK2, rfl⟩)
            refine ⟨.bool true, ?_, rfl, ?_⟩
            · simp [results, Try.f4, go_sem, hc5]
            · exact hB2.trans (belowK_b (w := w) (Nat.le_refl _) _ W0.heap.size _ _ (by omega) hK2 rfl rfl)

theorem gives_fr {w : World} (size leave : Int) {a1 : Option Addr} {n1 k1 : Nat} {ops : List (Int × Int)} (A1 : PrA w.heap.size w a1 n1 ops) :
    Calls Try.prog 4 #[.int .i64 size, .slice a1 n1 k1, .int .i64 leave] w fun e w' => e = .returned (.bool true) ∧ Fr (fun _ => False) w w' :=
  (gives_calls size leave A1).mono fun e w' ⟨h1, h2⟩ => ⟨h1, Fr.ofBelow h2 _⟩

end Go.Proofs.Ytanmhjnelhjejaa
