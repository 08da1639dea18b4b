/-
  MpscLeaves: who leaves the range early has had just the first ones, and changes nothing.
-/
import Derived.Test.YtingpopcdihclabMqCalm
namespace Go.Proofs.Ytingpopcdihclab
open Go.RowKit Go.Shelf
attribute [local go_sem] Oper.semAt_some
set_option linter.unusedVariables false
set_option maxRecDepth 100000

/-- all cells stand, but for the block Bn -/
def Kept (Bn : Nat) (W W' : World) : Prop := W.heap.size ≤ W'.heap.size ∧ ∀ k cs t, W.heap[k]? = some (.cells cs t (0, 0)) → k ≠ Bn → W'.heap[k]? = some (.cells cs t (0, 0))

theorem Kept.refl (Bn : Nat) (W : World) : Kept Bn W W := ⟨Nat.le_refl _, fun _ _ _ h _ => h⟩
theorem Kept.trans {Bn : Nat} {A B C : World} (h : Kept Bn A B) (k : Kept Bn B C) : Kept Bn A C := ⟨Nat.le_trans h.1 k.1, fun i cs t e n => k.2 i cs t (h.2 i cs t e n) n⟩
theorem Kept.put {Bn n : Nat} (W : World) (l : Nat) (o o' : Obj) (hl : n ≤ l) (h : W.heap[l]? = some o) (hc : o.isCells = false) (_ : o.isWalk = false) : Kept Bn W (W.putObj l o') := by
  refine ⟨by simp [World.putObj], fun k cs t hk _ => ?_⟩
  have hne : k ≠ l := by rintro rfl; rw [hk] at h; cases h; cases hc
  simp only [World.putObj]
  rw [Array.getElem?_setIfInBounds, if_neg (by omega)]
  exact hk
theorem Kept.set (Bn : Nat) (W : World) (v : Value) : Kept Bn W (W.setCell ⟨Bn, 0, none⟩ v) := ⟨by simp [World.setCell], fun k cs t hk hn => by rw [Below.heap_setCell _ _ _ _ (by exact hn)]; exact hk⟩

theorem cells_keep {W W' : World} {row : Option Nat} (hg : W.grownBy W' row) (hr : ∀ r, row = some r → ∃ o : Obj, W.heap[r]? = some o ∧ o.isCells = false) {b : Nat} {cs : Array Value} {t : TypeId} (h : W.heap[b]? = some (.cells cs t (0, 0))) : W'.heap[b]? = some (.cells cs t (0, 0)) := by
  by_cases e : some b = row
  · obtain ⟨o', ho', hc'⟩ := hr b e.symm
    rw [h] at ho'; cases ho'; cases hc'
  · rw [hg.block b (lt_of_blk h) e]; exact h

theorem Mp.kept {Bn : Nat} {W W' : World} {lo b : Nat} {q : Qu} (h : Mp W lo b q) (hk : Kept Bn W W') (hn : ∀ cs t, W.heap[Bn]? = some (.cells cs t (0, 0)) → t ≠ 66 ∧ t ≠ 61) : Mp W' lo b q := by
  obtain ⟨⟨⟨cs, h1, h2⟩, h3, h4⟩, h5⟩ := h
  refine ⟨⟨⟨cs, hk.2 b cs _ h1 (fun e => (hn _ _ (e ▸ h1)).1 rfl), h2⟩, fun x hx => ⟨(h3 x hx).1, hk.2 x _ _ (h3 x hx).2 (fun e => (hn _ _ (e ▸ (h3 x hx).2)).2 rfl)⟩, h4⟩, h5⟩

/-- the law between two rounds -/
def LvJ (w w0 : World) (Bn : Nat) (pre : List Int) (W : World) : Prop := Boxed W Bn 3 (.int .i64 (pre.length : Int)) ∧ Kept Bn w0 W ∧ Below w.heap.size w W

theorem LvJ.own (w w0 : World) (Bn : Nat) {B : Nat} (hB : w.heap.size ≤ B) : OwnFrom B (LvJ w w0 Bn) := by
  intro s W W' row h hg hr
  have hr' : ∀ r, row = some r → ∃ o : Obj, W.heap[r]? = some o ∧ o.isCells = false := fun r e => (hr r e).2
  exact ⟨cells_keep hg hr' h.1, ⟨Nat.le_trans h.2.1.1 hg.size, fun k cs t e n => cells_keep hg hr' (h.2.1.2 k cs t e n)⟩, ownFrom_below (β := Unit) (Nat.le_refl _) hB () W W' row h.2.2 hg hr⟩

/-- a round has left -/
def LvX (w w0 : World) (Bn : Nat) (V : List Int) (leave : Int) (c : Code) (pre : List Int) (W : World) : Prop := pre <+: V → c = .exit 4 ∧ (pre.length : Int) = leave ∧ LvJ w w0 Bn pre W
theorem LvX.own (w w0 : World) (Bn : Nat) (V : List Int) (leave : Int) (c : Code) {B : Nat} (hB : w.heap.size ≤ B) : OwnFrom B (LvX w w0 Bn V leave c) := by
  intro s W W' row h hg hr hp
  obtain ⟨h1, h2, h3⟩ := h hp
  exact ⟨h1, h2, LvJ.own w w0 Bn hB s W W' row h3 hg hr⟩

/-- the law's three boxes -/
structure BX (w : World) (a1 : Option Addr) (n1 k1 : Nat) (leave : Int) (W : World) : Prop where
  b0 : W.heap[w.heap.size]? = some (.cells #[.slice a1 n1 k1] 42 (0, 0))
  b1 : W.heap[w.heap.size + 1]? = some (.cells #[.int .i64 leave] 3 (0, 0))
  b2 : W.heap[w.heap.size + 2]? = some (.cells #[.bool false] 4 (0, 0))

theorem BX.fr {P : Nat → Prop} {w : World} {a1 : Option Addr} {n1 k1 : Nat} {leave : Int} {W W' : World} (h : BX w a1 n1 k1 leave W) (hf : Fr P W W') (hP : ∀ k, P k → w.heap.size + 3 ≤ k) : BX w a1 n1 k1 leave W' :=
  ⟨hf.blk h.b0 (fun e => by have := hP _ e; omega), hf.blk h.b1 (fun e => by have := hP _ e; omega), hf.blk h.b2 (fun e => by have := hP _ e; omega)⟩
theorem BX.cs {w : World} {a1 : Option Addr} {n1 k1 : Nat} {leave : Int} {W : World} (h : BX w a1 n1 k1 leave W) : W.cell? ⟨w.heap.size, 0, none⟩ = some (.slice a1 n1 k1) ∧ W.cell? ⟨w.heap.size + 1, 0, none⟩ = some (.int .i64 leave) ∧ W.cell? ⟨w.heap.size + 2, 0, none⟩ = some (.bool false) ∧ W.frozen? ⟨w.heap.size + 2, 0, none⟩ = false ∧ w.heap.size + 2 < W.heap.size :=
  ⟨(cell_at h.b0 0).trans rfl, (cell_at h.b1 0).trans rfl, (cell_at h.b2 0).trans rfl, free_at h.b2 0, lt_of_blk h.b2⟩

/-- where the law stands between two Puts -/
def LvQ (w : World) (G : Nat) (a1 : Option Addr) (n1 k1 : Nat) (leave : Int) (rows : List Int) (j : Nat) (W : World) : Prop :=
  ∃ (q : Qu) (R : List Nat), Mp W G (G + 1) q ∧ Lin q R ∧ (∀ i, q.th i = Rq.zero) ∧ R.map q.v = rows.take j ∧ q.ids.length ≤ j + 1 ∧ BX w a1 n1 k1 leave W ∧ Below w.heap.size w W

set_option maxHeartbeats 8000000 in
theorem leaves_calls {w : World} {a1 : Option Addr} {n1 k1 : Nat} {rows : List Int} (A1 : NuA w.heap.size w a1 n1 rows) (hn1 : n1 * 8 ≤ 140737488351232) (hnk : n1 ≤ k1) (leave : Int) :
    Calls Try.prog 6 #[.slice a1 n1 k1, .int .i64 leave] w fun e w' => e = .returned (.bool true) ∧ Fr (fun _ => False) w w' := by
  refine (callsIn_wide (n := 4)).1 ?_
  refine callsIn_of_wp_marks Try.func6 rfl trivial ?_ rfl
  simp only [Try.ntmps6, List.size_toArray, List.length_cons, List.length_nil, Nat.reduceAdd, Nat.reduceSub, Array.replicate_succ, Array.replicate_zero, List.push_toArray, List.append_toArray, List.nil_append, List.cons_append]
  have hb0 : BX w a1 n1 k1 leave (((w.alloc (.cells #[.slice a1 n1 k1] 42)).alloc (.cells #[.int .i64 leave] 3)).alloc (.cells #[.bool false] 4)) := by
    refine ⟨blk_alloc (blk_alloc (blk_new w _)), blk_alloc ?_, ?_⟩
    · have := blk_new (w.alloc (.cells #[.slice a1 n1 k1] 42)) (.cells #[.int .i64 leave] 3)
      simpa using this
    · have := blk_new ((w.alloc (.cells #[.slice a1 n1 k1] 42)).alloc (.cells #[.int .i64 leave] 3)) (.cells #[.bool false] 4)
      simpa using this
  have hw0 : Below w.heap.size w (((w.alloc (.cells #[.slice a1 n1 k1] 42)).alloc (.cells #[.int .i64 leave] 3)).alloc (.cells #[.bool false] 4)) := (((Below.refl _ w).alloc (Nat.le_refl _) _).alloc (by simp) _).alloc (by simp; omega) _
  have hz0 : (((w.alloc (.cells #[.slice a1 n1 k1] 42)).alloc (.cells #[.int .i64 leave] 3)).alloc (.cells #[.bool false] 4)).heap.size = w.heap.size + 3 := by simp
  have HB0 := hide hb0
  clear hb0
  gi_wp2_with (first
    | (refine ⟨trivial, ?_⟩; gi_at_call 9; refine (callsIn_wide.2 (lives_calls _)).mono ?_; rintro e w1 ⟨rfl, hF0⟩)
    | (refine ⟨trivial, ?_⟩; gi_at_call 10; refine (callsIn_wide.2 (mnew _)).mono ?_; rintro e w2 ⟨rfl, hM, hF1⟩))
  have hb2 : BX w a1 n1 k1 leave w2 := ((unhide HB0).fr hF0 (fun _ h => h.elim)).fr hF1 (fun _ h => h.elim)
  have hw2 : Below w.heap.size w w2 := (hw0.trans (hF0.below (by omega) (fun _ _ h => h))).trans (hF1.below (by have := hF0.size; omega) (fun _ _ h => h))
  obtain ⟨G, hG⟩ : ∃ G, w1.heap.size = G := ⟨_, rfl⟩
  rw [hG] at hM
  simp only [hG]
  have hGw : w.heap.size + 3 ≤ G := by rw [← hG]; have := hF0.size; omega
  have hst : LvQ w G a1 n1 k1 leave rows 0 w2 := ⟨Qu.new G, [], hM, lin_new G, fun _ => rfl, by simp, by simp [Qu.new], hb2, hw2⟩
  clear hM hF0 hF1 hG HB0 hw0 hz0 hb2 hw2
  generalize (((w.alloc (.cells #[.slice a1 n1 k1] 42)).alloc (.cells #[.int .i64 leave] 3)).alloc (.cells #[.bool false] 4)) = w0 at *
  gi_loopw [6] (fun i wr => ∃ j : Nat, j ≤ n1 ∧ j ≤ 1000 ∧ i = .int .i64 j ∧ LvQ w G a1 n1 k1 leave rows j wr) (fun i _ => n1 - (intOf i).toNat)
  case atStart => exact ⟨0, by omega, by omega, rfl, hst⟩
  case round =>
    clear hst
    obtain ⟨j, hj, hj5, rfl, q, R, hM, L, hz, hv, hid, hX, hF⟩ := hrel
    obtain ⟨x0, x1, x2, f2, hlX⟩ := hX.cs
    by_cases hlt : j < n1 ∧ j < 1000
    · --P
      obtain ⟨ba, off, t, rfl, hba, hx, ht64, c0w⟩ := A1.num hlt.1
      have c0 := cell_fr (Below.fr hF) (by omega) c0w
      have hlt' : (j : Int) < (n1 : Int) := by omega
      have hlt5 : (j : Int) < 1000 := by omega
      obtain ⟨k, hk⟩ : ∃ k : Nat, 1 + j % 7 = k := ⟨_, rfl⟩
      have hk0 : k ≠ 0 := by omega
      have hk8 : k < 8 := by omega
      have hkm : 1 + (j : Int) % 7 = (k : Int) := by omega
      have HB := hide (mbegin hM hk8 hk0 (hz k) (by omega) t)
      have HX := hide hx
      clear hx hk
      gi_wp2_with (refine ⟨trivial, ?_⟩; gi_at_call 12; refine (callsIn_wide.2 (unhide HB)).mono ?_; rintro e w3 ⟨x, hx, rfl, hM3, hF3⟩)
      have hX3 := hX.fr hF3 (fun _ h => by have := h.1; omega)
      have hw3 : Below w.heap.size w w3 := hF.trans (hF3.below hF.size (fun _ _ h => by have := h.1; omega))
      obtain ⟨q1, hq1⟩ : ∃ q1, (q.born x t).set k ⟨1, some x, none⟩ = q1 := ⟨_, rfl⟩
      have L1 : Lin q1 R := by rw [← hq1]; exact L.beg hM.wf hx hk0 (hz k) t
      rw [hq1] at hM3
      have hv1 : q1.v x = t := by rw [← hq1]; simp [Qu.set, Qu.born]
      obtain ⟨q3, hrun⟩ := run_put L1 hM3.wf hk0 (show q1.th k = ⟨1, some x, none⟩ by rw [← hq1]; exact qset_th _ _ _) (fun i hi => by rw [← hq1, qset_ne _ _ hi]; exact hz i)
      have hRv : (R ++ [x]).map q3.v = rows.take (j + 1) := by
        rw [hrun.v, List.map_append, List.take_add_one, HX.out]
        show _ = rows.take j ++ [t]
        rw [← hv]
        congr 1
        · apply List.map_congr_left
          intro y hy
          have hne : y ≠ x := fun e => hx (e ▸ L.mem y (List.mem_cons_of_mem _ hy))
          rw [← hq1]
          simp [Qu.set, Qu.born, hne]
        · simp [hv1]
      have hi3 : q3.ids.length ≤ j + 1 + 1 := by rw [hrun.ids, ← hq1]; show (q.ids ++ [x]).length ≤ _; simp; omega
      generalize (⟨true, false, q1.v x, 0⟩ : Qn) = Y at *
      have HRUN := hide hrun
      have HRV := hide hRv
      have HI3 := hide hi3
      clear L1 L hrun hRv hv1 hx hq1 hi3 hz hM hX hF c0 x0 x1 x2 f2 hlX hv hF3
      obtain ⟨wo, hwo⟩ : ∃ wo, wo = wr := ⟨_, rfl⟩
      subst hwo
      gi_loopw [8] (fun s wr => ∃ i : Nat, i ≤ 3 ∧ s = .int .i64 i ∧ Mp wr G (G + 1) (qit q1 k i) ∧ BX w (some ⟨ba, off, none⟩) n1 k1 leave wr ∧ Below w.heap.size w wr) (fun s _ => 3 - (intOf s).toNat)
      case atStart => exact ⟨0, by omega, rfl, hM3, hX3, hw3⟩
      case round =>
        clear hM3 hX3 hw3
        obtain ⟨i, hi, rfl, hMi, hXi, hFi⟩ := hrel
        by_cases his : i < 3
        · have HST := hide (run_step (unhide HRUN) (by omega) his hMi)
          generalize (if i + 1 = 3 then Y else Qn.none) = yy at HST
          have hi2 : (i : Int) < 3 := by omega
          gi_wp2_with (refine ⟨trivial, ?_⟩; gi_at_call 14; refine (callsIn_wide.2 (unhide HST)).mono ?_; rintro e w4 ⟨rfl, hM4, hF4⟩)
          go_roundw
          case rel => exact ⟨i + 1, by omega, by go_num, hM4, hXi.fr hF4 (fun _ h => by have := h.1; omega), hFi.trans (hF4.below hFi.size (fun _ _ h => by have := h.1; omega))⟩
          case measure => simp [intOf]; omega
        · obtain rfl : i = 3 := by omega
          rw [(unhide HRUN).last] at hMi
          gi_wp2
          exact ⟨⟨j + 1, by omega, by omega, by go_num, q3, R ++ [x], hMi, (unhide HRUN).lin, (unhide HRUN).th, HRV.out, HI3.out, hXi, hFi⟩, by simp [intOf]; omega⟩
    · --E
      have hjm : j = min n1 1000 := by omega
      have hRl : R.length = j := by
        have := congrArg List.length hv
        rw [List.length_map, List.length_take] at this
        have := A1.len
        omega
      have hC := chn_all L hz
      have HV := hide (fun W (hW : Mp W G (G + 1) q) => values_calls hW.is hW.wf hC (by omega))
      have HI := hide (fun W (hW : Mp W G (G + 1) q) => mitems hW hC (by omega))
      have hlen : (R.map q.v).length = j := by rw [List.length_map]; exact hRl
      have HVV := hide hv
      have HJ := hide hjm
      generalize R.map q.v = V at *
      have HLEN := hide hlen
      have hlen5 : V.length ≤ 100000 := by omega
      clear hC L hz hRl hv hjm hlen
      have hnn := hM.is.lt
      by_cases hj1 : (j : Int) < (n1 : Int)
      · --A
        obtain rfl : j = 1000 := by omega
        have hn1000 : 1000 ≤ (n1 : Int) := by omega
        clear HJ
        gi_wp2_with (refine ⟨trivial, ?_⟩; gi_at_call 20; refine (callsIn_wide.2 (items_in _ _)).mono ?_; rintro e w' ⟨rfl, rfl⟩)
        have q0 := (Boxed.new wr 3 (.int .i64 0)).alloc (.cells #[.pointer (some ⟨G + 1, 0, none⟩)] 24)
        have q1 := Boxed.new (wr.alloc (.cells #[.int .i64 0] 3)) 24 (.pointer (some ⟨G + 1, 0, none⟩))
        rw [World.size_alloc] at q1
        have hM0 := (hM.al (.cells #[.int .i64 0] 3)).al (.cells #[.pointer (some ⟨G + 1, 0, none⟩)] 24)
        have hX0 := hX.fr (((Fr.refl (fun _ => False) wr).alloc (.cells #[.int .i64 0] 3)).alloc (.cells #[.pointer (some ⟨G + 1, 0, none⟩)] 24)) (fun _ h => h.elim)
        have hW0 : Below w.heap.size w ((wr.alloc (.cells #[.int .i64 0] 3)).alloc (.cells #[.pointer (some ⟨G + 1, 0, none⟩)] 24)) := (hF.alloc hF.size _).alloc (by have := hF.size; simp; omega) _
        have hz0 : ((wr.alloc (.cells #[.int .i64 0] 3)).alloc (.cells #[.pointer (some ⟨G + 1, 0, none⟩)] 24)).heap.size = wr.heap.size + 2 := by simp
        have hBw : w.heap.size + 3 ≤ wr.heap.size := by omega
        generalize (wr.alloc (.cells #[.int .i64 0] 3)).alloc (.cells #[.pointer (some ⟨G + 1, 0, none⟩)] 24) = W0 at *
        generalize wr.heap.size = Bn at *
        clear hM hX hF x0 x1 x2 f2 hlX hnn
        refine wpIn_rangeFunc_ownG (α := Int) rfl (by omega) (gf := 26) (lb := #[.pointer (some ⟨Bn + 1, 0, none⟩)]) rfl trivial (enters_of Try.func26 (by kernel_rfl) rfl)
          (items_stops 3 (by omega) (Bn + 1) (some ⟨G + 1, 0, none⟩) V W0 (Kept Bn) (fun q _ => q ≠ Bn) (by omega) q1 ?hS0 ?hSK (fun W hW => unhide HV W (hM0.fr (Fr.ofBelow hW (fun _ => False)) (fun _ _ h => h)))) Kept.trans (Kept.put (n := W0.heap.size)) (Below.refl _ _) (fun _ => rfl)
          (LvJ w W0 Bn)
          (LvX w W0 Bn V leave)
          (LvJ.own w W0 Bn (by omega))
          (fun c => LvX.own w W0 Bn V leave c (by omega))
          ⟨q0, Kept.refl _ _, hW0⟩
          (fun x => { tmps := #[.slice a1 n1 k1, .int .i64 leave, .pointer (some ⟨w.heap.size, 0, none⟩), .pointer (some ⟨w.heap.size + 1, 0, none⟩), .pointer (some ⟨w.heap.size + 1 + 1, 0, none⟩), .pointer (some ⟨G + 1, 0, none⟩), .int .i64 1000, u7, u8, .pointer (some ⟨Bn, 0, none⟩), .int .i64 x, undef, .bool true, .bool false, .pointer (some ⟨G + 1, 0, none⟩), .int .i64 1000, .slice a1 n1 k1, .int .i64 (n1 : Int), .bool true, .bool true, .int .i64 1000, .bool false, .bool false, u23, u24, u25, u26, u27, u28, u29, u30, u31, u32, u33, u34, u35, u36, u37, u38, u39, u40, u41, u42, .pointer (some ⟨G + 1, 0, none⟩), .func (.func 26) #[] #[.pointer (some ⟨Bn + 1, 0, none⟩)], .int .i64 x, undef, undef, undef, undef, undef, undef, undef, undef, undef, undef, undef, undef, undef, undef, undef, undef, undef, undef, undef, undef, undef, undef, undef, undef, undef, undef, undef, undef, undef, undef, undef, undef, undef, undef, undef, undef, undef, undef, undef, undef, undef, undef, undef, undef], defers := [] }) ?assign ?body ?done ?stop
        case hS0 =>
          intro W W' q hW hF h1 h2
          have := hW.size
          show q ≠ Bn
          omega
        case hSK =>
          rintro q W W' h1 ⟨cs, t, hq⟩ hK
          exact ⟨h1, (hK.2 q cs t hq h1).trans hq.symm⟩
        case assign =>
          intro l x W K hK
          dsimp only [itQ]
          gi_wp2
          exact hK
        case body =>
          rintro lp pre x W ⟨hv, hk, hB⟩ hlt
          have hlt2 : pre.length < 1000 := by rw [HLEN.out] at hlt; exact hlt
          have hnc := hv.cell
          have hnf := hv.frozen
          have hXW : BX w a1 n1 k1 leave W := ⟨hk.2 _ _ _ hX0.b0 (by omega), hk.2 _ _ _ hX0.b1 (by omega), hk.2 _ _ _ hX0.b2 (by omega)⟩
          obtain ⟨x0, x1, x2, f2, hlX⟩ := hXW.cs
          have hsW := hk.1
          obtain ⟨ba, off, y, rfl, hba, hy, _, c0w⟩ := A1.num (show pre.length < n1 by omega)
          have c0 := cell_fr (Below.fr hB) (by omega) c0w
          have hp1 : (pre.length : Int) < (n1 : Int) := by omega
          have hp2 : ¬ (pre.length : Int) ≥ (n1 : Int) := by omega
          have hVy : V[pre.length]? = some y := by
            rw [HVV.out, List.getElem?_take, if_pos hlt2]
            exact hy
          have HVY := hide hVy
          have HK := hide hk
          have HB := hide hB
          have HVB := hide hv
          clear hVy hy hk hB hv c0w
          by_cases hxy : x = y
          · subst hxy
            have hLJ : LvJ w W0 Bn (pre ++ [x]) (W.setCell ⟨Bn, 0, none⟩ (.int .i64 ((pre.length : Int) + 1))) := ⟨by have := (unhide HVB).set (.int .i64 ((pre.length : Int) + 1)); simpa using this, (unhide HK).trans (Kept.set Bn W _), (unhide HB).setCell (p := ⟨Bn, 0, none⟩) (by show w.heap.size ≤ Bn; omega) _⟩
            have HLJ := hide hLJ
            clear hLJ
            by_cases hle : (pre.length : Int) + 1 = leave
            · subst hle
              gi_wp2
              have hres : LvX w W0 Bn V ((pre.length : Int) + 1) (.exit 4) (pre ++ [x]) (W.setCell ⟨Bn, 0, none⟩ (.int .i64 ((pre.length : Int) + 1))) := fun _ => ⟨rfl, by simp, unhide HLJ⟩
              exact ⟨(KeepsOthers.setCell _ _ _).from _, hres⟩
            · have hle' : ((pre.length : Int) + 1 == leave) = false := by simpa using hle
              gi_wp2
              exact ⟨(KeepsOthers.setCell _ _ _).from _, Kept.set Bn W _, unhide HLJ⟩
          · have hxy' : (x == y) = false := by simpa using hxy
            gi_wp2
            exact ⟨(KeepsOthers.setCell _ _ _).from _, fun hp => absurd (by obtain ⟨s, hs⟩ := hp; rw [← hs] at HVY; have := HVY.out; simpa using this) hxy⟩
        case done =>
          rintro D V W hD rfl ⟨hv, hk, hB⟩ hK
          have hMW : Mp W G (G + 1) q := hM0.kept hk (fun cs t e => by have h := show _ = _ from q0; rw [h] at e; cases e; exact ⟨by decide, by decide⟩)
          have hXW : BX w a1 n1 k1 leave W := ⟨hk.2 _ _ _ hX0.b0 (by omega), hk.2 _ _ _ hX0.b1 (by omega), hk.2 _ _ _ hX0.b2 (by omega)⟩
          have HIW := hide (unhide HI W hMW)
          have hjL := HLEN.out
          have hmin : min (n1 : Int) 1000 = 1000 := by omega
          gi_wp2_with fail
          refine ⟨trivial, ?_⟩
          refine (callsIn_wide.2 (unhide HIW)).mono ?_
          rintro e w5 ⟨v, rfl, hLv, hF5⟩
          obtain ⟨al, cl, rfl, -⟩ := hLv.cell
          rw [hjL]
          have hX5 := hXW.fr hF5 (fun _ h => h.elim)
          obtain ⟨x0, x1, x2, f2, hlX⟩ := hX5.cs
          have hB5 : Below w.heap.size w w5 := hB.trans (hF5.below hB.size (fun _ _ h => h))
          have hD5 := hF5.blk hK (fun h => h)
          have hv5 := hF5.blk hv (fun h => h)
          have hn5 : w5.cell? ⟨Bn, 0, none⟩ = some (.int .i64 (V.length : Int)) := (cell_at hv5 0).trans rfl
          have hSl : Sl w5 (.slice a1 1000 k1) V := by
            refine ⟨a1, k1, by rw [hjL], fun i x hx => ?_⟩
            have hij : i < 1000 := by rw [← hjL]; exact (List.getElem?_eq_some_iff.1 hx).1
            obtain ⟨ba, off, y, rfl, hba, hy, _, c0w⟩ := A1.num (show i < n1 by omega)
            have hxy : x = y := by
              rw [HVV.out, List.getElem?_take, if_pos hij, hy] at hx
              exact (Option.some.inj hx).symm
            subst hxy
            exact ⟨ba, off, rfl, cell_fr (Below.fr hB5) (by omega) c0w⟩
          have hSA := same_true (l := V) (hLv.sl) hSl (by omega)
          rw [hjL] at hSA
          have HSA := hide hSA
          clear hSA
          rw [hjL] at hn5
          have hjk : 1000 ≤ k1 := by omega
          clear hjL hLv hSl hv hv5 hF5 hMW hXW
          dsimp only
          gi_wp2_with (refine ⟨trivial, ?_⟩; gi_at_call 17; refine (callsIn_wide.2 (unhide HSA)).mono ?_; rintro e w6 ⟨rfl, hF6⟩; have y1 := cell_fr hF6 (fun h => h) x1; have y2 := cell_fr hF6 (fun h => h) x2; have y3 := cell_fr hF6 (fun h => h) hn5; have hX6 := hX5.fr hF6 (fun _ h => h.elim); have g2 := free_at hX6.b2 0; have hD6 := hF6.blk hD5 (fun h => h); have hB6 : Below w.heap.size w w6 := hB5.trans (hF6.below hB5.size (fun _ _ h => h)))
          have hK' := (KeepsOthers.setCell w6 ⟨w.heap.size + 1 + 1, 0, none⟩ (.bool true)).same D _ hD6 rfl
          refine ⟨by simp, .inl ⟨_, _, rfl, run_takeDeferred hK', ?_⟩⟩
          have hc5 := cell_kept (World.cell?_setCell_same' w6 ⟨w.heap.size + 1 + 1, 0, none⟩ (.bool true) (by rw [y2]; rfl)) (grownBy_putObj' _ D (.deferred none)) (fun r e => by cases e; exact ⟨_, hK', rfl⟩)
          refine ⟨.bool true, ?_, rfl, ?_⟩
          · simp [results, Try.f6, go_sem, hc5]
          · exact Fr.ofBelow ((hB6.setCell (p := ⟨w.heap.size + 1 + 1, 0, none⟩) (by show w.heap.size ≤ w.heap.size + 1 + 1; omega) _).trans (belowK_b (w := w) (Nat.le_refl _) _ D _ _ (by omega) hK' rfl rfl)) _
        case stop =>
          rintro D c pre W hD h1 h hK
          obtain ⟨rfl, hle, hv, hk, hB⟩ := h h1
          have hMW : Mp W G (G + 1) q := hM0.kept hk (fun cs t e => by have h := show _ = _ from q0; rw [h] at e; cases e; exact ⟨by decide, by decide⟩)
          have hXW : BX w a1 n1 k1 leave W := ⟨hk.2 _ _ _ hX0.b0 (by omega), hk.2 _ _ _ hX0.b1 (by omega), hk.2 _ _ _ hX0.b2 (by omega)⟩
          have HIW := hide (unhide HI W hMW)
          have hjL := HLEN.out
          have hmin : min (n1 : Int) 1000 = 1000 := by omega
          gi_wp2_with fail
          refine ⟨trivial, ?_⟩
          refine (callsIn_wide.2 (unhide HIW)).mono ?_
          rintro e w5 ⟨v, rfl, hLv, hF5⟩
          obtain ⟨al, cl, rfl, -⟩ := hLv.cell
          rw [hjL]
          have hX5 := hXW.fr hF5 (fun _ h => h.elim)
          obtain ⟨x0, x1, x2, f2, hlX⟩ := hX5.cs
          have hB5 : Below w.heap.size w w5 := hB.trans (hF5.below hB.size (fun _ _ h => h))
          have hD5 := hF5.blk hK (fun h => h)
          have hv5 := hF5.blk hv (fun h => h)
          have hn5 : w5.cell? ⟨Bn, 0, none⟩ = some (.int .i64 (pre.length : Int)) := (cell_at hv5 0).trans rfl
          have hSl : Sl w5 (.slice a1 1000 k1) V := by
            refine ⟨a1, k1, by rw [hjL], fun i x hx => ?_⟩
            have hij : i < 1000 := by rw [← hjL]; exact (List.getElem?_eq_some_iff.1 hx).1
            obtain ⟨ba, off, y, rfl, hba, hy, _, c0w⟩ := A1.num (show i < n1 by omega)
            have hxy : x = y := by
              rw [HVV.out, List.getElem?_take, if_pos hij, hy] at hx
              exact (Option.some.inj hx).symm
            subst hxy
            exact ⟨ba, off, rfl, cell_fr (Below.fr hB5) (by omega) c0w⟩
          have hSA := same_true (l := V) (hLv.sl) hSl (by omega)
          rw [hjL] at hSA
          have HSA := hide hSA
          clear hSA
          have hjk : 1000 ≤ k1 := by omega
          by_cases hpj : pre.length = 1000
          · rw [hpj] at hn5
            clear hjL hpj hle hLv hSl hv hv5 hF5 hMW hXW h h1
            dsimp only
            gi_wp2_with (refine ⟨trivial, ?_⟩; gi_at_call 17; refine (callsIn_wide.2 (unhide HSA)).mono ?_; rintro e w6 ⟨rfl, hF6⟩; have y1 := cell_fr hF6 (fun h => h) x1; have y2 := cell_fr hF6 (fun h => h) x2; have y3 := cell_fr hF6 (fun h => h) hn5; have hX6 := hX5.fr hF6 (fun _ h => h.elim); have g2 := free_at hX6.b2 0; have hD6 := hF6.blk hD5 (fun h => h); have hB6 : Below w.heap.size w w6 := hB5.trans (hF6.below hB5.size (fun _ _ h => h)))
            have hK' := (KeepsOthers.setCell w6 ⟨w.heap.size + 1 + 1, 0, none⟩ (.bool true)).same D _ hD6 rfl
            refine ⟨by simp, .inl ⟨_, _, rfl, run_takeDeferred hK', ?_⟩⟩
            have hc5 := cell_kept (World.cell?_setCell_same' w6 ⟨w.heap.size + 1 + 1, 0, none⟩ (.bool true) (by rw [y2]; rfl)) (grownBy_putObj' _ D (.deferred none)) (fun r e => by cases e; exact ⟨_, hK', rfl⟩)
            refine ⟨.bool true, ?_, rfl, ?_⟩
            · simp [results, Try.f6, go_sem, hc5]
            · exact Fr.ofBelow ((hB6.setCell (p := ⟨w.heap.size + 1 + 1, 0, none⟩) (by show w.heap.size ≤ w.heap.size + 1 + 1; omega) _).trans (belowK_b (w := w) (Nat.le_refl _) _ D _ _ (by omega) hK' rfl rfl)) _
          · have hpj' : (leave == 1000) = false := by rw [← hle]; simp; omega
            rw [hle] at hn5
            clear hjL hpj hle hLv hSl hv hv5 hF5 hMW hXW h h1
            dsimp only
            gi_wp2_with (refine ⟨trivial, ?_⟩; gi_at_call 17; refine (callsIn_wide.2 (unhide HSA)).mono ?_; rintro e w6 ⟨rfl, hF6⟩; have y1 := cell_fr hF6 (fun h => h) x1; have y2 := cell_fr hF6 (fun h => h) x2; have y3 := cell_fr hF6 (fun h => h) hn5; have hX6 := hX5.fr hF6 (fun _ h => h.elim); have g2 := free_at hX6.b2 0; have hD6 := hF6.blk hD5 (fun h => h); have hB6 : Below w.heap.size w w6 := hB5.trans (hF6.below hB5.size (fun _ _ h => h)))
            have hK' := (KeepsOthers.setCell w6 ⟨w.heap.size + 1 + 1, 0, none⟩ (.bool true)).same D _ hD6 rfl
            refine ⟨by simp, .inl ⟨_, _, rfl, run_takeDeferred hK', ?_⟩⟩
            have hc5 := cell_kept (World.cell?_setCell_same' w6 ⟨w.heap.size + 1 + 1, 0, none⟩ (.bool true) (by rw [y2]; rfl)) (grownBy_putObj' _ D (.deferred none)) (fun r e => by cases e; exact ⟨_, hK', rfl⟩)
            refine ⟨.bool true, ?_, rfl, ?_⟩
            · simp [results, Try.f6, go_sem, hc5]
            · exact Fr.ofBelow ((hB6.setCell (p := ⟨w.heap.size + 1 + 1, 0, none⟩) (by show w.heap.size ≤ w.heap.size + 1 + 1; omega) _).trans (belowK_b (w := w) (Nat.le_refl _) _ D _ _ (by omega) hK' rfl rfl)) _
      · --B
        obtain rfl : j = n1 := by omega
        have hn1000 : (j : Int) ≤ 1000 := by omega
        clear HJ
        gi_wp2_with (refine ⟨trivial, ?_⟩; gi_at_call 20; refine (callsIn_wide.2 (items_in _ _)).mono ?_; rintro e w' ⟨rfl, rfl⟩)
        have q0 := (Boxed.new wr 3 (.int .i64 0)).alloc (.cells #[.pointer (some ⟨G + 1, 0, none⟩)] 24)
        have q1 := Boxed.new (wr.alloc (.cells #[.int .i64 0] 3)) 24 (.pointer (some ⟨G + 1, 0, none⟩))
        rw [World.size_alloc] at q1
        have hM0 := (hM.al (.cells #[.int .i64 0] 3)).al (.cells #[.pointer (some ⟨G + 1, 0, none⟩)] 24)
        have hX0 := hX.fr (((Fr.refl (fun _ => False) wr).alloc (.cells #[.int .i64 0] 3)).alloc (.cells #[.pointer (some ⟨G + 1, 0, none⟩)] 24)) (fun _ h => h.elim)
        have hW0 : Below w.heap.size w ((wr.alloc (.cells #[.int .i64 0] 3)).alloc (.cells #[.pointer (some ⟨G + 1, 0, none⟩)] 24)) := (hF.alloc hF.size _).alloc (by have := hF.size; simp; omega) _
        have hz0 : ((wr.alloc (.cells #[.int .i64 0] 3)).alloc (.cells #[.pointer (some ⟨G + 1, 0, none⟩)] 24)).heap.size = wr.heap.size + 2 := by simp
        have hBw : w.heap.size + 3 ≤ wr.heap.size := by omega
        generalize (wr.alloc (.cells #[.int .i64 0] 3)).alloc (.cells #[.pointer (some ⟨G + 1, 0, none⟩)] 24) = W0 at *
        generalize wr.heap.size = Bn at *
        clear hM hX hF x0 x1 x2 f2 hlX hnn
        refine wpIn_rangeFunc_ownG (α := Int) rfl (by omega) (gf := 26) (lb := #[.pointer (some ⟨Bn + 1, 0, none⟩)]) rfl trivial (enters_of Try.func26 (by kernel_rfl) rfl)
          (items_stops 3 (by omega) (Bn + 1) (some ⟨G + 1, 0, none⟩) V W0 (Kept Bn) (fun q _ => q ≠ Bn) (by omega) q1 ?hS0 ?hSK (fun W hW => unhide HV W (hM0.fr (Fr.ofBelow hW (fun _ => False)) (fun _ _ h => h)))) Kept.trans (Kept.put (n := W0.heap.size)) (Below.refl _ _) (fun _ => rfl)
          (LvJ w W0 Bn)
          (LvX w W0 Bn V leave)
          (LvJ.own w W0 Bn (by omega))
          (fun c => LvX.own w W0 Bn V leave c (by omega))
          ⟨q0, Kept.refl _ _, hW0⟩
          (fun x => { tmps := #[.slice a1 j k1, .int .i64 leave, .pointer (some ⟨w.heap.size, 0, none⟩), .pointer (some ⟨w.heap.size + 1, 0, none⟩), .pointer (some ⟨w.heap.size + 1 + 1, 0, none⟩), .pointer (some ⟨G + 1, 0, none⟩), .int .i64 (j : Int), u7, u8, .pointer (some ⟨Bn, 0, none⟩), .int .i64 x, undef, .bool true, .bool false, .pointer (some ⟨G + 1, 0, none⟩), .int .i64 (j : Int), .slice a1 j k1, .int .i64 (j : Int), .bool false, .bool false, undef, undef, .bool false, u23, u24, u25, u26, u27, u28, u29, u30, u31, u32, u33, u34, u35, u36, u37, u38, u39, u40, u41, u42, .pointer (some ⟨G + 1, 0, none⟩), .func (.func 26) #[] #[.pointer (some ⟨Bn + 1, 0, none⟩)], .int .i64 x, undef, undef, undef, undef, undef, undef, undef, undef, undef, undef, undef, undef, undef, undef, undef, undef, undef, undef, undef, undef, undef, undef, undef, undef, undef, undef, undef, undef, undef, undef, undef, undef, undef, undef, undef, undef, undef, undef, undef, undef, undef, undef, undef, undef], defers := [] }) ?assign ?body ?done ?stop
        case hS0 =>
          intro W W' q hW hF h1 h2
          have := hW.size
          show q ≠ Bn
          omega
        case hSK =>
          rintro q W W' h1 ⟨cs, t, hq⟩ hK
          exact ⟨h1, (hK.2 q cs t hq h1).trans hq.symm⟩
        case assign =>
          intro l x W K hK
          dsimp only [itQ]
          gi_wp2
          exact hK
        case body =>
          rintro lp pre x W ⟨hv, hk, hB⟩ hlt
          have hlt2 : pre.length < j := by rw [HLEN.out] at hlt; exact hlt
          have hnc := hv.cell
          have hnf := hv.frozen
          have hXW : BX w a1 j k1 leave W := ⟨hk.2 _ _ _ hX0.b0 (by omega), hk.2 _ _ _ hX0.b1 (by omega), hk.2 _ _ _ hX0.b2 (by omega)⟩
          obtain ⟨x0, x1, x2, f2, hlX⟩ := hXW.cs
          have hsW := hk.1
          obtain ⟨ba, off, y, rfl, hba, hy, _, c0w⟩ := A1.num (show pre.length < j by omega)
          have c0 := cell_fr (Below.fr hB) (by omega) c0w
          have hp1 : (pre.length : Int) < (j : Int) := by omega
          have hp2 : ¬ (pre.length : Int) ≥ (j : Int) := by omega
          have hVy : V[pre.length]? = some y := by
            rw [HVV.out, List.getElem?_take, if_pos hlt2]
            exact hy
          have HVY := hide hVy
          have HK := hide hk
          have HB := hide hB
          have HVB := hide hv
          clear hVy hy hk hB hv c0w
          by_cases hxy : x = y
          · subst hxy
            have hLJ : LvJ w W0 Bn (pre ++ [x]) (W.setCell ⟨Bn, 0, none⟩ (.int .i64 ((pre.length : Int) + 1))) := ⟨by have := (unhide HVB).set (.int .i64 ((pre.length : Int) + 1)); simpa using this, (unhide HK).trans (Kept.set Bn W _), (unhide HB).setCell (p := ⟨Bn, 0, none⟩) (by show w.heap.size ≤ Bn; omega) _⟩
            have HLJ := hide hLJ
            clear hLJ
            by_cases hle : (pre.length : Int) + 1 = leave
            · subst hle
              gi_wp2
              have hres : LvX w W0 Bn V ((pre.length : Int) + 1) (.exit 4) (pre ++ [x]) (W.setCell ⟨Bn, 0, none⟩ (.int .i64 ((pre.length : Int) + 1))) := fun _ => ⟨rfl, by simp, unhide HLJ⟩
              exact ⟨(KeepsOthers.setCell _ _ _).from _, hres⟩
            · have hle' : ((pre.length : Int) + 1 == leave) = false := by simpa using hle
              gi_wp2
              exact ⟨(KeepsOthers.setCell _ _ _).from _, Kept.set Bn W _, unhide HLJ⟩
          · have hxy' : (x == y) = false := by simpa using hxy
            gi_wp2
            exact ⟨(KeepsOthers.setCell _ _ _).from _, fun hp => absurd (by obtain ⟨s, hs⟩ := hp; rw [← hs] at HVY; have := HVY.out; simpa using this) hxy⟩
        case done =>
          rintro D V W hD rfl ⟨hv, hk, hB⟩ hK
          have hMW : Mp W G (G + 1) q := hM0.kept hk (fun cs t e => by have h := show _ = _ from q0; rw [h] at e; cases e; exact ⟨by decide, by decide⟩)
          have hXW : BX w a1 j k1 leave W := ⟨hk.2 _ _ _ hX0.b0 (by omega), hk.2 _ _ _ hX0.b1 (by omega), hk.2 _ _ _ hX0.b2 (by omega)⟩
          have HIW := hide (unhide HI W hMW)
          have hjL := HLEN.out
          have hmin : min (j : Int) 1000 = (j : Int) := by omega
          gi_wp2_with fail
          refine ⟨trivial, ?_⟩
          refine (callsIn_wide.2 (unhide HIW)).mono ?_
          rintro e w5 ⟨v, rfl, hLv, hF5⟩
          obtain ⟨al, cl, rfl, -⟩ := hLv.cell
          rw [hjL]
          have hX5 := hXW.fr hF5 (fun _ h => h.elim)
          obtain ⟨x0, x1, x2, f2, hlX⟩ := hX5.cs
          have hB5 : Below w.heap.size w w5 := hB.trans (hF5.below hB.size (fun _ _ h => h))
          have hD5 := hF5.blk hK (fun h => h)
          have hv5 := hF5.blk hv (fun h => h)
          have hn5 : w5.cell? ⟨Bn, 0, none⟩ = some (.int .i64 (V.length : Int)) := (cell_at hv5 0).trans rfl
          have hSl : Sl w5 (.slice a1 j k1) V := by
            refine ⟨a1, k1, by rw [hjL], fun i x hx => ?_⟩
            have hij : i < j := by rw [← hjL]; exact (List.getElem?_eq_some_iff.1 hx).1
            obtain ⟨ba, off, y, rfl, hba, hy, _, c0w⟩ := A1.num (show i < j by omega)
            have hxy : x = y := by
              rw [HVV.out, List.getElem?_take, if_pos hij, hy] at hx
              exact (Option.some.inj hx).symm
            subst hxy
            exact ⟨ba, off, rfl, cell_fr (Below.fr hB5) (by omega) c0w⟩
          have hSA := same_true (l := V) (hLv.sl) hSl (by omega)
          rw [hjL] at hSA
          have HSA := hide hSA
          clear hSA
          rw [hjL] at hn5
          have hjk : j ≤ k1 := by omega
          clear hjL hLv hSl hv hv5 hF5 hMW hXW
          dsimp only
          gi_wp2_with (refine ⟨trivial, ?_⟩; gi_at_call 17; refine (callsIn_wide.2 (unhide HSA)).mono ?_; rintro e w6 ⟨rfl, hF6⟩; have y1 := cell_fr hF6 (fun h => h) x1; have y2 := cell_fr hF6 (fun h => h) x2; have y3 := cell_fr hF6 (fun h => h) hn5; have hX6 := hX5.fr hF6 (fun _ h => h.elim); have g2 := free_at hX6.b2 0; have hD6 := hF6.blk hD5 (fun h => h); have hB6 : Below w.heap.size w w6 := hB5.trans (hF6.below hB5.size (fun _ _ h => h)))
          have hK' := (KeepsOthers.setCell w6 ⟨w.heap.size + 1 + 1, 0, none⟩ (.bool true)).same D _ hD6 rfl
          refine ⟨by simp, .inl ⟨_, _, rfl, run_takeDeferred hK', ?_⟩⟩
          have hc5 := cell_kept (World.cell?_setCell_same' w6 ⟨w.heap.size + 1 + 1, 0, none⟩ (.bool true) (by rw [y2]; rfl)) (grownBy_putObj' _ D (.deferred none)) (fun r e => by cases e; exact ⟨_, hK', rfl⟩)
          refine ⟨.bool true, ?_, rfl, ?_⟩
          · simp [results, Try.f6, go_sem, hc5]
          · exact Fr.ofBelow ((hB6.setCell (p := ⟨w.heap.size + 1 + 1, 0, none⟩) (by show w.heap.size ≤ w.heap.size + 1 + 1; omega) _).trans (belowK_b (w := w) (Nat.le_refl _) _ D _ _ (by omega) hK' rfl rfl)) _
        case stop =>
          rintro D c pre W hD h1 h hK
          obtain ⟨rfl, hle, hv, hk, hB⟩ := h h1
          have hMW : Mp W G (G + 1) q := hM0.kept hk (fun cs t e => by have h := show _ = _ from q0; rw [h] at e; cases e; exact ⟨by decide, by decide⟩)
          have hXW : BX w a1 j k1 leave W := ⟨hk.2 _ _ _ hX0.b0 (by omega), hk.2 _ _ _ hX0.b1 (by omega), hk.2 _ _ _ hX0.b2 (by omega)⟩
          have HIW := hide (unhide HI W hMW)
          have hjL := HLEN.out
          have hmin : min (j : Int) 1000 = (j : Int) := by omega
          gi_wp2_with fail
          refine ⟨trivial, ?_⟩
          refine (callsIn_wide.2 (unhide HIW)).mono ?_
          rintro e w5 ⟨v, rfl, hLv, hF5⟩
          obtain ⟨al, cl, rfl, -⟩ := hLv.cell
          rw [hjL]
          have hX5 := hXW.fr hF5 (fun _ h => h.elim)
          obtain ⟨x0, x1, x2, f2, hlX⟩ := hX5.cs
          have hB5 : Below w.heap.size w w5 := hB.trans (hF5.below hB.size (fun _ _ h => h))
          have hD5 := hF5.blk hK (fun h => h)
          have hv5 := hF5.blk hv (fun h => h)
          have hn5 : w5.cell? ⟨Bn, 0, none⟩ = some (.int .i64 (pre.length : Int)) := (cell_at hv5 0).trans rfl
          have hSl : Sl w5 (.slice a1 j k1) V := by
            refine ⟨a1, k1, by rw [hjL], fun i x hx => ?_⟩
            have hij : i < j := by rw [← hjL]; exact (List.getElem?_eq_some_iff.1 hx).1
            obtain ⟨ba, off, y, rfl, hba, hy, _, c0w⟩ := A1.num (show i < j by omega)
            have hxy : x = y := by
              rw [HVV.out, List.getElem?_take, if_pos hij, hy] at hx
              exact (Option.some.inj hx).symm
            subst hxy
            exact ⟨ba, off, rfl, cell_fr (Below.fr hB5) (by omega) c0w⟩
          have hSA := same_true (l := V) (hLv.sl) hSl (by omega)
          rw [hjL] at hSA
          have HSA := hide hSA
          clear hSA
          have hjk : j ≤ k1 := by omega
          by_cases hpj : pre.length = j
          · rw [hpj] at hn5
            clear hjL hpj hle hLv hSl hv hv5 hF5 hMW hXW h h1
            dsimp only
            gi_wp2_with (refine ⟨trivial, ?_⟩; gi_at_call 17; refine (callsIn_wide.2 (unhide HSA)).mono ?_; rintro e w6 ⟨rfl, hF6⟩; have y1 := cell_fr hF6 (fun h => h) x1; have y2 := cell_fr hF6 (fun h => h) x2; have y3 := cell_fr hF6 (fun h => h) hn5; have hX6 := hX5.fr hF6 (fun _ h => h.elim); have g2 := free_at hX6.b2 0; have hD6 := hF6.blk hD5 (fun h => h); have hB6 : Below w.heap.size w w6 := hB5.trans (hF6.below hB5.size (fun _ _ h => h)))
            have hK' := (KeepsOthers.setCell w6 ⟨w.heap.size + 1 + 1, 0, none⟩ (.bool true)).same D _ hD6 rfl
            refine ⟨by simp, .inl ⟨_, _, rfl, run_takeDeferred hK', ?_⟩⟩
            have hc5 := cell_kept (World.cell?_setCell_same' w6 ⟨w.heap.size + 1 + 1, 0, none⟩ (.bool true) (by rw [y2]; rfl)) (grownBy_putObj' _ D (.deferred none)) (fun r e => by cases e; exact ⟨_, hK', rfl⟩)
            refine ⟨.bool true, ?_, rfl, ?_⟩
            · simp [results, Try.f6, go_sem, hc5]
            · exact Fr.ofBelow ((hB6.setCell (p := ⟨w.heap.size + 1 + 1, 0, none⟩) (by show w.heap.size ≤ w.heap.size + 1 + 1; omega) _).trans (belowK_b (w := w) (Nat.le_refl _) _ D _ _ (by omega) hK' rfl rfl)) _
          · have hpj' : (leave == (j : Int)) = false := by rw [← hle]; simp; omega
            rw [hle] at hn5
            clear hjL hpj hle hLv hSl hv hv5 hF5 hMW hXW h h1
            dsimp only
            gi_wp2_with (refine ⟨trivial, ?_⟩; gi_at_call 17; refine (callsIn_wide.2 (unhide HSA)).mono ?_; rintro e w6 ⟨rfl, hF6⟩; have y1 := cell_fr hF6 (fun h => h) x1; have y2 := cell_fr hF6 (fun h => h) x2; have y3 := cell_fr hF6 (fun h => h) hn5; have hX6 := hX5.fr hF6 (fun _ h => h.elim); have g2 := free_at hX6.b2 0; have hD6 := hF6.blk hD5 (fun h => h); have hB6 : Below w.heap.size w w6 := hB5.trans (hF6.below hB5.size (fun _ _ h => h)))
            have hK' := (KeepsOthers.setCell w6 ⟨w.heap.size + 1 + 1, 0, none⟩ (.bool true)).same D _ hD6 rfl
            refine ⟨by simp, .inl ⟨_, _, rfl, run_takeDeferred hK', ?_⟩⟩
            have hc5 := cell_kept (World.cell?_setCell_same' w6 ⟨w.heap.size + 1 + 1, 0, none⟩ (.bool true) (by rw [y2]; rfl)) (grownBy_putObj' _ D (.deferred none)) (fun r e => by cases e; exact ⟨_, hK', rfl⟩)
            refine ⟨.bool true, ?_, rfl, ?_⟩
            · simp [results, Try.f6, go_sem, hc5]
            · exact Fr.ofBelow ((hB6.setCell (p := ⟨w.heap.size + 1 + 1, 0, none⟩) (by show w.heap.size ≤ w.heap.size + 1 + 1; omega) _).trans (belowK_b (w := w) (Nat.le_refl _) _ D _ _ (by omega) hK' rfl rfl)) _

end Go.Proofs.Ytingpopcdihclab
