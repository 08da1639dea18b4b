/-
  Back of a ring of numbers: what its iterator hands over, the last one first.
-/
import Derived.Test.YtanmhjnelhjejaaRgAll
import Derived.Test.YtanmhjnelhjejaaSeqOwn
import Derived.RangeFuncBox
namespace Go.Proofs.Ytanmhjnelhjejaa
open Go.RowKit Go.Shelf
attribute [local go_sem] Oper.semAt_some
set_option linter.unusedVariables false
set_option maxRecDepth 100000

/-- what comes from behind: the number, the thing -/
def bitems (l : List Int) (k : Nat) : List (Nat × Int) := (List.range k).map fun i => (l.length - 1 - i, l.getD (l.length - 1 - i) 0)
theorem bitems_succ (l : List Int) (k : Nat) : bitems l (k + 1) = bitems l k ++ [(l.length - 1 - k, l.getD (l.length - 1 - k) 0)] := by unfold bitems; rw [List.range_succ, List.map_append]; rfl
theorem bitems_len (l : List Int) (k : Nat) : (bitems l k).length = k := by unfold bitems; simp
theorem bitems_mono (l : List Int) {k n : Nat} (h : k ≤ n) : bitems l k <+: bitems l n := by
  induction n with
  | zero => obtain rfl : k = 0 := by omega
            exact List.prefix_refl _
  | succ n ih =>
    rcases Nat.lt_or_ge n k with hk | hk
    · obtain rfl : k = n + 1 := by omega
      exact List.prefix_refl _
    · rw [bitems_succ]; exact (ih hk).trans (List.prefix_append _ _)

/-- blocks from n1 up to n2 stand -/
def KR (n1 n2 : Nat) (W W' : World) : Prop := W.heap.size ≤ W'.heap.size ∧ ∀ k, n1 ≤ k → k < n2 → W'.heap[k]? = W.heap[k]?
theorem KR.refl (n1 n2 : Nat) (W : World) : KR n1 n2 W W := ⟨Nat.le_refl _, fun _ _ _ => rfl⟩
theorem KR.trans {n1 n2 : Nat} {A B C : World} (h : KR n1 n2 A B) (k : KR n1 n2 B C) : KR n1 n2 A C := ⟨Nat.le_trans h.1 k.1, fun i h1 h2 => (k.2 i h1 h2).trans (h.2 i h1 h2)⟩
theorem KR.put {n1 n2 : Nat} (W : World) (l : Nat) (o' : Obj) (hl : n2 ≤ l) : KR n1 n2 W (W.putObj l o') :=
  ⟨by simp [World.putObj], fun i h1 h2 => by simp only [World.putObj]; rw [Array.getElem?_setIfInBounds, if_neg (by omega)]⟩

/-- all that lies from n2 on stands -/
def KB (n2 : Nat) (W W' : World) : Prop := W.heap.size ≤ W'.heap.size ∧ ∀ k o, n2 ≤ k → W.heap[k]? = some o → W'.heap[k]? = some o
theorem KB.refl (n2 : Nat) (W : World) : KB n2 W W := ⟨Nat.le_refl _, fun _ _ _ h => h⟩
theorem KB.trans {n2 : Nat} {A B C : World} (h : KB n2 A B) (k : KB n2 B C) : KB n2 A C := ⟨Nat.le_trans h.1 k.1, fun i o h1 h2 => k.2 i o h1 (h.2 i o h1 h2)⟩

theorem bw_in (v : Value) (a : Option Addr) (n c : Nat) (hv : v = .slice a n c) (w : World) :
    Calls Try.prog 45 #[v] w fun e w' => e = .returned (.func (.func 56) #[] #[.pointer (some ⟨w.heap.size, 0, none⟩)]) ∧ w' = w.alloc (.cells #[v] 29) := by
  subst hv
  go_enter Try.func45, Try.ntmps45
  go_wp2
  go_ret
  exact ⟨rfl, rfl⟩

theorem back_in (p : Option Addr) (w : World) :
    Calls Try.prog 27 #[.pointer p] w fun e w' => e = .returned (.func (.func 44) #[] #[.pointer (some ⟨w.heap.size, 0, none⟩)]) ∧ w' = w.alloc (.cells #[.pointer p] 24) := by
  go_enter Try.func27, Try.ntmps27
  go_wp2
  go_ret
  exact ⟨rfl, rfl⟩

set_option maxHeartbeats 4000000 in
theorem bw1_stops (nn : Nat) (hn : 1 ≤ nn) (n1 n2 B q : Nat) (l : List Int) (w : World) (hl : l.length ≤ 4096) (hw : n2 ≤ w.heap.size) (h1 : n1 ≤ B ∧ B < n2) (h2 : n1 ≤ q ∧ q < n2)
    (hB : w.heap[B]? = some (.cells #[.slice (some ⟨q, 0, none⟩) l.length l.length] 29 (0, 0))) (hL : LB w q l.length l) :
    SeqStopsK Fence.wide nn Try.prog 56 #[.pointer (some ⟨B, 0, none⟩)] itR (KR n1 n2) (fun ys => ys = bitems l l.length) (fun pre => pre <+: bitems l l.length) l.length w := by
  intro lp J Jx W hW hJ hJx hY h0
  have hB' : W.heap[B]? = some (.cells #[.slice (some ⟨q, 0, none⟩) l.length l.length] 29 (0, 0)) := (hW.block B (lt_of_blk hB)).trans hB
  have hL' : LB W q l.length l := by obtain ⟨cs, g1, g2⟩ := hL; exact ⟨cs, (hW.block q (lt_of_blk g1)).trans g1, g2⟩
  have c0 := cell_at hB' 0
  obtain ⟨n, hnl⟩ : ∃ n, l.length = n := ⟨_, rfl⟩
  rw [hnl] at hl hY hB' hL' c0 ⊢
  have HN := hide hnl
  have HY := hide hY
  simp at c0
  clear hY hB hL hnl
  refine callsIn_of_wp Try.func56 rfl trivial ?_ rfl
  simp only [Try.ntmps56, List.size_toArray, List.length_cons, List.length_nil, Nat.reduceAdd, Nat.reduceSub, Array.replicate_succ, Array.replicate_zero, List.push_toArray, List.append_toArray, List.nil_append, List.cons_append]
  gi_wp2
  gi_loopw [3] (fun i wr => ∃ k : Nat, k ≤ n ∧ i = .int .i64 ((n : Int) - 1 - k) ∧ J (bitems l k) wr ∧ KR n1 n2 W wr) (fun i _ => (intOf i + 1).toNat)
  case atStart => exact ⟨0, Nat.zero_le _, by go_num, h0, KR.refl _ _ _⟩
  case round =>
    clear c0
    obtain ⟨k, hk, rfl, hJs, hK⟩ := hrel
    by_cases hlt : k < n
    · obtain ⟨m, hm⟩ : ∃ m, n = k + m + 1 := ⟨n - k - 1, by omega⟩
      have hmi : (n : Int) - 1 - (k : Int) = (m : Int) := by omega
      obtain ⟨x, hx⟩ : ∃ x, l[m]? = some x := ⟨l[m]'(by have := HN.out; omega), List.getElem?_eq_getElem _⟩
      have hgk : l.getD (l.length - 1 - k) 0 = x := by rw [HN.out, show n - 1 - k = m by omega, List.getD_eq_getElem?_getD, hx]; rfl
      have hst := bitems_succ l k
      rw [hgk, HN.out, show n - 1 - k = m by omega] at hst
      have hpre := bitems_mono l (k := k + 1) (n := n) hlt
      have hLr : LB wr q n l := by obtain ⟨cs, g1, g2⟩ := hL'; exact ⟨cs, (hK.2 q h2.1 h2.2).trans g1, g2⟩
      have hc := hLr.cell hx
      have hBr := (hK.2 B h1.1 h1.2).trans hB'
      have c0 := cell_at hBr 0
      simp at c0
      obtain ⟨fn, tmps, assign, body, hy', hR⟩ := unhide HY (bitems l k) (m, x) _ hJs (by rw [bitems_len]; exact hlt)
      have hmn : (m : Int) < (n : Int) := by omega
      dsimp only [itR] at hy'
      rw [← hst] at hR
      rw [hmi]
      have HM := hide hm
      have HMI := hide hmi
      clear hx hgk HY hLr hm hmi hst
      gi_wp2
      refine hR.mono ?_
      rintro e W3 (⟨rfl, hJ3, hk3⟩ | ⟨rfl, hJx3⟩)
      · gi_wp2
        go_roundw
        case rel => exact ⟨k + 1, by omega, by have := unhide HM; go_num, hJ3, hK.trans hk3⟩
        case measure => first | (simp [intOf]; done) | (simp [intOf]; omega)
      · gi_wp2
        refine bodyPost_ret (results_none rfl _ _ _) rfl ?_
        exact ⟨⟨_, rfl⟩, .inr ⟨_, hpre, hJx3⟩⟩
    · obtain rfl : k = n := by omega
      have hneg : (k : Int) - 1 - (k : Int) = -1 := by omega
      rw [hneg]
      gi_wp2
      go_end0
      exact ⟨⟨_, rfl⟩, .inl ⟨_, rfl, hJs⟩⟩

def encB (x : Int) : Array Value := #[.int .i64 x]
def backs (l : List Int) : List Int := (bitems l l.length).map (·.2)
theorem backs_pre {l : List Int} {pre : List (Nat × Int)} (h : pre <+: bitems l l.length) : pre.map (·.2) <+: backs l := by
  obtain ⟨s, hs⟩ := h
  exact ⟨s.map (·.2), by unfold backs; rw [← hs, List.map_append]⟩

set_option maxHeartbeats 4000000 in
theorem back1_own (nn : Nat) (hn : 3 ≤ nn) (n2 B : Nat) (p : Option Addr) (l : List Int) (w : World) (hl : l.length ≤ 4096) (hn2 : n2 ≤ w.heap.size + 2) (hB : w.heap[B]? = some (.cells #[.pointer p] 24 (0, 0)))
    (hT : ∀ W, Below w.heap.size w W → Calls Try.prog 46 #[.pointer p] W fun e w' => e = .returned (.slice (some ⟨W.heap.size, 0, none⟩) l.length l.length) ∧ LB w' W.heap.size l.length l ∧ Fr (fun _ => False) W w') :
    SeqOwn Fence.wide nn Try.prog 44 #[.pointer (some ⟨B, 0, none⟩)] encB (KB n2) (fun ys => ys = backs l) (fun pre => pre <+: backs l) l.length w := by
  intro lo J Jx W hW hW2 hJ hJx hY h0
  have hB' : W.heap[B]? = some (.cells #[.pointer p] 24 (0, 0)) := (hW.block B (lt_of_blk hB)).trans hB
  have hBlt := lt_of_blk hB'
  have zn2 : n2 ≤ W.heap.size := Nat.le_trans hn2 hW2
  have hnn : 1 ≤ nn := by omega
  have c0 := cell_at (blk_alloc (u := .cells #[.func (.yield lo) #[] #[]] 71) hB') 0
  have HT := hide (hT (W.alloc (.cells #[.func (.yield lo) #[] #[]] 71)) (hW.trans (((Below.refl _ W).alloc (Nat.le_refl _) _).mono hW.size)))
  have HY := hide hY
  simp at c0
  clear hY hB hT
  refine callsIn_of_wp_marks Try.func44 rfl trivial ?_ rfl
  simp only [Try.ntmps44, List.size_toArray, List.length_cons, List.length_nil, Nat.reduceAdd, Nat.reduceSub, Array.replicate_succ, Array.replicate_zero, List.push_toArray, List.append_toArray, List.nil_append, List.cons_append]
  gi_wp2_with (first
    | (refine ⟨trivial, ?_⟩; gi_at_call 46; refine (callsIn_wide.2 (unhide HT)).mono ?_; rintro e w1 ⟨rfl, hL0, hF0⟩)
    | (refine ⟨trivial, ?_⟩; gi_at_call 45; refine (callsIn_wide.2 (bw_in _ _ _ _ rfl _)).mono ?_; rintro e w2 ⟨rfl, rfl⟩))
  have zq := hL0.lt
  have z1 := hF0.size
  simp at zq z1
  have hFa : Fr (fun _ => False) W (w1.alloc (.cells #[.slice (some ⟨W.heap.size + 1, 0, none⟩) l.length l.length] 29)) := (((Fr.refl _ W).alloc _).trans hF0 (fun _ _ h => h) (fun _ _ h => h)).alloc _
  have hYb : Boxed (w1.alloc (.cells #[.slice (some ⟨W.heap.size + 1, 0, none⟩) l.length l.length] 29)) W.heap.size 71 (.func (.yield lo) #[] #[]) := blk_alloc (hF0.blk (blk_new W _) (fun h => h))
  have hSb : (w1.alloc (.cells #[.slice (some ⟨W.heap.size + 1, 0, none⟩) l.length l.length] 29)).heap[w1.heap.size]? = some (.cells #[.slice (some ⟨W.heap.size + 1, 0, none⟩) l.length l.length] 29 (0, 0)) := blk_new w1 _
  have hLi : LB (w1.alloc (.cells #[.slice (some ⟨W.heap.size + 1, 0, none⟩) l.length l.length] 29)) (W.heap.size + 1) l.length l := by simpa using hL0.fr ((Fr.refl (fun _ => False) w1).alloc _) (fun h => h)
  have zi : (w1.alloc (.cells #[.slice (some ⟨W.heap.size + 1, 0, none⟩) l.length l.length] 29)).heap.size = w1.heap.size + 1 := by simp
  have hJi : J [] (w1.alloc (.cells #[.slice (some ⟨W.heap.size + 1, 0, none⟩) l.length l.length] 29)) := hJ _ _ _ none h0 hFa.grownBy (fun r e => by cases e)
  generalize w1.alloc (.cells #[.slice (some ⟨W.heap.size + 1, 0, none⟩) l.length l.length] 29) = wi at *
  refine wpIn_rangeFunc_ownG (α := Nat × Int) rfl (by omega) (gf := 56) (lb := #[.pointer (some ⟨w1.heap.size, 0, none⟩)]) rfl trivial (enters_of Try.func56 (by kernel_rfl) rfl)
    (bw1_stops (nn - 1) (by omega) W.heap.size wi.heap.size w1.heap.size (W.heap.size + 1) l wi hl (Nat.le_refl _) ⟨by omega, by omega⟩ ⟨by omega, by omega⟩ hSb hLi) KR.trans (fun V k o o' hk _ _ _ => KR.put V k o' hk) (Below.refl _ _) (fun _ => rfl)
    (fun pre V => J (pre.map (·.2)) V ∧ Boxed V W.heap.size 71 (.func (.yield lo) #[] #[]) ∧ wi.heap.size ≤ V.heap.size)
    (fun c pre V => c = .ret ∧ Jx (pre.map (·.2)) V)
    (OwnFrom.and (fun s A C row h hg hr => ownWider hJ (by omega) (s.map (·.2)) A C row h hg hr) (OwnFrom.and (Own.from (boxed_own _ _ _) _) (fun s A C row h hg hr => Nat.le_trans h hg.size)))
    (fun c s A C row h hg hr => ⟨h.1, ownWider hJx (by omega) (s.map (·.2)) A C row h.2 hg hr⟩)
    ⟨hJi, hYb, Nat.le_refl _⟩
    (fun x => { tmps := #[.func (.yield lo) #[] #[], .pointer (some ⟨B, 0, none⟩), .pointer (some ⟨W.heap.size, 0, none⟩), undef, .int .i64 x.2, .pointer p, .slice (some ⟨W.heap.size + 1, 0, none⟩) l.length l.length, .func (.func 56) #[] #[.pointer (some ⟨w1.heap.size, 0, none⟩)], .int .i64 (x.1 : Int), .int .i64 x.2, undef, undef, undef, undef], defers := [] }) ?assign ?body ?done ?stop
  case assign =>
    intro _ x V K hK
    dsimp only [itR]
    gi_wp2
    exact hK
  case body =>
    rintro lp pre x V ⟨hJp, hYv, hzV⟩ hlt
    have hc := hYv.cell
    obtain ⟨fn, tmps, assign, body, hy', hR⟩ := unhide HY (pre.map (·.2)) x.2 V hJp (by simpa using hlt)
    dsimp only [encB] at hy'
    have hn1 : 1 ≤ nn - 1 - 1 := by omega
    have HR := hide hR
    clear HY hR
    gi_wp2
    refine (round_wide (unhide HR)).mono ?_
    rintro e V3 (⟨rfl, hJ3, hk3⟩ | ⟨rfl, hJx3, hk3⟩)
    · gi_wp2
      exact ⟨⟨hk3.1, fun i o hB hi _ => hk3.2 i o (by omega) hi⟩, ⟨hk3.1, fun i h1 h2 => by
        have hi : V.heap[i]? = some (V.heap[i]'(by omega)) := Array.getElem?_eq_getElem (by omega)
        rw [hi]; exact hk3.2 i _ (by omega) hi⟩, by rw [List.map_append]; exact hJ3, hk3.2 _ _ (by omega) hYv, Nat.le_trans hzV hk3.1⟩
    · gi_wp2
      exact ⟨⟨hk3.1, fun i o hB hi _ => hk3.2 i o (by omega) hi⟩, rfl, by rw [List.map_append]; exact hJx3⟩
  case done =>
    rintro D ys V hD rfl ⟨hJp, hYv, _⟩ hK
    gi_wp2
    refine ⟨by simp, .inl ⟨_, _, rfl, run_takeDeferred hK, ?_⟩⟩
    exact ⟨_, results_none rfl _ _ _, ⟨_, rfl⟩, .inl ⟨_, rfl, hJ.putObj _ hJp (by omega) hK rfl⟩⟩
  case stop =>
    rintro D c pre V hD hpre ⟨rfl, hJp⟩ hK
    gi_wp2
    refine ⟨by simp, .inl ⟨_, _, rfl, run_takeDeferred hK, ?_⟩⟩
    exact ⟨_, results_none rfl _ _ _, ⟨_, rfl⟩, .inr ⟨_, backs_pre hpre, hJx.putObj _ hJp (by omega) hK rfl⟩⟩

end Go.Proofs.Ytanmhjnelhjejaa
