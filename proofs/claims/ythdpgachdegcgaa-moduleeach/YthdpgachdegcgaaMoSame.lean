/-
  Same of package module: the lists are equal just if they are place by place.
-/
import Derived.Test.YthdpgachdegcgaaMoRight
namespace Go.Proofs.Ythdpgachdegcgaa
open Go.RowKit
set_option linter.unusedVariables false
set_option maxRecDepth 8192

theorem Ac.eq_iff (x y : Ac) : x = y ↔ x.ps = y.ps ∧ x.rs = y.rs ∧ x.ms = y.ms ∧ x.cs = y.cs ∧ x.ts = y.ts := by
  cases x; cases y; simp
instance : DecidableEq Ac := fun x y => decidable_of_iff _ (Ac.eq_iff x y).symm

theorem take_step {α : Type} {l l' : List α} {k : Nat} {x y : α} (h : l.take k = l'.take k) (hx : l[k]? = some x) (hy : l'[k]? = some y) : x = y → l.take (k + 1) = l'.take (k + 1) := by
  rintro rfl
  obtain ⟨h1, rfl⟩ := List.getElem?_eq_some_iff.1 hx
  obtain ⟨h2, e⟩ := List.getElem?_eq_some_iff.1 hy
  rw [List.take_succ_eq_append_getElem h1, List.take_succ_eq_append_getElem h2, h, e]

set_option maxHeartbeats 1000000 in
theorem eqIns_calls {lo hi lo' hi' : Nat} {w : World} {a a' : Option Addr} {n n' : Nat} {l l' : List (Int × Int)} (h : PrA lo hi w a n l) (h' : PrA lo' hi' w a' n' l') (c c' : Nat) :
    Calls Try.prog 46 #[.slice a n c, .slice a' n' c'] w fun e w' => e = .returned (.bool (decide (l = l'))) ∧ ∃ q, w' = w.drewN q := by
  have hs := h.small
  have hs' := h'.small
  have hl := h.len
  have hl' := h'.len
  by_cases hnm : n = n'
  · subst hnm
    have hb : ((n : Int) != (n : Int)) = false := by simp
    have HL := hide hl
    have HL' := hide hl'
    clear hl hl'
    go_enter Try.func46, Try.ntmps46
    go_wp2
    go_loopw [13] (fun i w' => ∃ k q : Nat, k ≤ n ∧ i = .int .i64 k ∧ l.take k = l'.take k ∧ w' = w.drewN q) (fun i w' => n - (intOf i).toNat)
    case atStart => exact ⟨0, 0, Nat.zero_le _, rfl, rfl, rfl⟩
    case round =>
      obtain ⟨k, q, hk, rfl, hall, rfl⟩ := hrel
      have Hall := hide hall
      clear hall
      by_cases hlt : k < n
      · obtain ⟨b1, o1, p1, q1, rfl, _, _, hx1, _, _, c1, c2⟩ := PrA.get h hlt
        obtain ⟨b2, o2, p2, q2, rfl, _, _, hx2, _, _, d1, d2⟩ := PrA.get h' hlt
        have hlt' : (k : Int) < (n : Int) := by omega
        have HS := hide (take_step (unhide Hall) hx1 hx2)
        have HX1 := hide hx1
        have HX2 := hide hx2
        clear hx1 hx2
        by_cases hp : p1 = p2
        · by_cases hq : q1 = q2
          · subst hp; subst hq
            have hb2 : (p1 == p1) = true := by simp
            have hb3 : (q1 == q1) = true := by simp
            go_wp2
            go_quiet (fail)
            go_wp2
            go_roundw
            case rel => exact ⟨k + 1, _, by omega, by go_num, unhide HS (by first | trivial | rfl), rfl⟩
            case measure => simp [intOf]; omega
          · subst hp
            have HE := hide (show decide (l = l') = false from decide_eq_false (fun e => by subst e; have := (unhide HX1).symm.trans (unhide HX2); simp at this; exact hq this))
            have hb2 : (p1 == p1) = true := by simp
            have hb3 : (q1 == q2) = false := by simp [hq]
            clear hq
            go_wp2
            go_quiet (fail)
            go_wp2
            go_ret
            exact ⟨mret_bool (unhide HE).symm, _, World.drewN_drewN _ _ _⟩
        · have HE := hide (show decide (l = l') = false from decide_eq_false (fun e => by subst e; have := (unhide HX1).symm.trans (unhide HX2); simp at this; exact hp this.1))
          have hb2 : (p1 == p2) = false := by simp [hp]
          clear hp
          go_wp2
          go_quiet (fail)
          go_wp2
          go_ret
          exact ⟨mret_bool (unhide HE).symm, _, World.drewN_drewN _ _ _⟩
      · have HA := hide (show decide (l = l') = true from decide_eq_true (by
          have e := unhide Hall
          rwa [List.take_of_length_le (by rw [unhide HL]; omega), List.take_of_length_le (by rw [unhide HL']; omega)] at e))
        go_wp2
        go_ret
        exact ⟨mret_bool (unhide HA).symm, _, rfl⟩
  · have hb : ((n : Int) != (n' : Int)) = true := by rw [bne_iff_ne]; omega
    have HA := hide (show decide (l = l') = false from decide_eq_false (fun e => hnm (by rw [← hl, ← hl', e])))
    clear hnm hl hl'
    go_enter Try.func46, Try.ntmps46
    go_wp2
    go_ret
    exact ⟨mret_bool (unhide HA).symm, 0, rfl⟩

set_option maxHeartbeats 1000000 in
theorem eqCls_calls {lo hi lo' hi' : Nat} {w : World} {a a' : Option Addr} {n n' : Nat} {l l' : List (Int × Int)} (h : PrA lo hi w a n l) (h' : PrA lo' hi' w a' n' l') (c c' : Nat) :
    Calls Try.prog 69 #[.slice a n c, .slice a' n' c'] w fun e w' => e = .returned (.bool (decide (l = l'))) ∧ ∃ q, w' = w.drewN q := by
  have hs := h.small
  have hs' := h'.small
  have hl := h.len
  have hl' := h'.len
  by_cases hnm : n = n'
  · subst hnm
    have hb : ((n : Int) != (n : Int)) = false := by simp
    have HL := hide hl
    have HL' := hide hl'
    clear hl hl'
    go_enter Try.func69, Try.ntmps69
    go_wp2
    go_loopw [13] (fun i w' => ∃ k q : Nat, k ≤ n ∧ i = .int .i64 k ∧ l.take k = l'.take k ∧ w' = w.drewN q) (fun i w' => n - (intOf i).toNat)
    case atStart => exact ⟨0, 0, Nat.zero_le _, rfl, rfl, rfl⟩
    case round =>
      obtain ⟨k, q, hk, rfl, hall, rfl⟩ := hrel
      have Hall := hide hall
      clear hall
      by_cases hlt : k < n
      · obtain ⟨b1, o1, p1, q1, rfl, _, _, hx1, _, _, c1, c2⟩ := PrA.get h hlt
        obtain ⟨b2, o2, p2, q2, rfl, _, _, hx2, _, _, d1, d2⟩ := PrA.get h' hlt
        have hlt' : (k : Int) < (n : Int) := by omega
        have HS := hide (take_step (unhide Hall) hx1 hx2)
        have HX1 := hide hx1
        have HX2 := hide hx2
        clear hx1 hx2
        by_cases hp : p1 = p2
        · by_cases hq : q1 = q2
          · subst hp; subst hq
            have hb2 : (p1 == p1) = true := by simp
            have hb3 : (q1 == q1) = true := by simp
            go_wp2
            go_quiet (fail)
            go_wp2
            go_roundw
            case rel => exact ⟨k + 1, _, by omega, by go_num, unhide HS (by first | trivial | rfl), rfl⟩
            case measure => simp [intOf]; omega
          · subst hp
            have HE := hide (show decide (l = l') = false from decide_eq_false (fun e => by subst e; have := (unhide HX1).symm.trans (unhide HX2); simp at this; exact hq this))
            have hb2 : (p1 == p1) = true := by simp
            have hb3 : (q1 == q2) = false := by simp [hq]
            clear hq
            go_wp2
            go_quiet (fail)
            go_wp2
            go_ret
            exact ⟨mret_bool (unhide HE).symm, _, World.drewN_drewN _ _ _⟩
        · have HE := hide (show decide (l = l') = false from decide_eq_false (fun e => by subst e; have := (unhide HX1).symm.trans (unhide HX2); simp at this; exact hp this.1))
          have hb2 : (p1 == p2) = false := by simp [hp]
          clear hp
          go_wp2
          go_quiet (fail)
          go_wp2
          go_ret
          exact ⟨mret_bool (unhide HE).symm, _, World.drewN_drewN _ _ _⟩
      · have HA := hide (show decide (l = l') = true from decide_eq_true (by
          have e := unhide Hall
          rwa [List.take_of_length_le (by rw [unhide HL]; omega), List.take_of_length_le (by rw [unhide HL']; omega)] at e))
        go_wp2
        go_ret
        exact ⟨mret_bool (unhide HA).symm, _, rfl⟩
  · have hb : ((n : Int) != (n' : Int)) = true := by rw [bne_iff_ne]; omega
    have HA := hide (show decide (l = l') = false from decide_eq_false (fun e => hnm (by rw [← hl, ← hl', e])))
    clear hnm hl hl'
    go_enter Try.func69, Try.ntmps69
    go_wp2
    go_ret
    exact ⟨mret_bool (unhide HA).symm, 0, rfl⟩

set_option maxHeartbeats 1000000 in
theorem sameTable_calls {lo hi lo' hi' : Nat} {w : World} {a a' : Option Addr} {n n' : Nat} {l l' : List (Int × Int)} (h : PrA lo hi w a n l) (h' : PrA lo' hi' w a' n' l') (c c' : Nat) (tm tm' : Int) :
    Calls Try.prog 48 #[tbV a n c tm, tbV a' n' c' tm'] w fun e w' => e = .returned (.bool (decide ((l, tm) = (l', tm')))) ∧ Q0 w w' := by
  have q1 : Q0 w ((w.alloc (.cells #[.slice a n c, .int .i64 tm] 87)).alloc (.cells #[.slice a' n' c', .int .i64 tm'] 87)) := ((Fr.refl _ w).alloc _).alloc _
  have H := hide (PrA.fr h q1 q0_no)
  have H' := hide (PrA.fr h' q1 q0_no)
  clear h h'
  by_cases ht : tm = tm'
  · subst ht
    have hb : (tm == tm) = true := by simp
    have HE := hide (show decide ((l, tm) = (l', tm)) = decide (l = l') by simp)
    go_enter Try.func48, Try.ntmps48
    go_wp2_with (go_at_call 69; refine (eqCls_calls (unhide H) (unhide H') _ _).mono ?_; rintro e w2 ⟨rfl, q, rfl⟩)
    go_ret
    exact ⟨mret_bool (unhide HE).symm, q1.drewN _⟩
  · have hb : (tm == tm') = false := by simp [ht]
    have HE := hide (show decide ((l, tm) = (l', tm')) = false by simp [ht])
    clear ht
    go_enter Try.func48, Try.ntmps48
    go_wp2
    go_ret
    exact ⟨mret_bool (unhide HE).symm, q1⟩

set_option maxHeartbeats 1000000 in
theorem eqTbs_calls {lo hi lo' hi' : Nat} {w : World} {a a' : Option Addr} {n n' : Nat} {l l' : List (List (Int × Int) × Int)} (h : TbA lo hi w a n l) (h' : TbA lo' hi' w a' n' l') (c c' : Nat) :
    Calls Try.prog 47 #[.slice a n c, .slice a' n' c', fnV 48] w fun e w' => e = .returned (.bool (decide (l = l'))) ∧ Q0 w w' := by
  have hs := h.small
  have hs' := h'.small
  have hl := h.len
  have hl' := h'.len
  by_cases hnm : n = n'
  · subst hnm
    have hb : ((n : Int) != (n : Int)) = false := by simp
    have HL := hide hl
    have HL' := hide hl'
    clear hl hl'
    go_enter Try.func47, Try.ntmps47
    go_wp2
    go_loopw [17] (fun i w' => ∃ k : Nat, k ≤ n ∧ i = .int .i64 k ∧ l.take k = l'.take k ∧ Q0 w w') (fun i w' => n - (intOf i).toNat)
    case atStart => exact ⟨0, Nat.zero_le _, rfl, rfl, Fr.refl _ _⟩
    case round =>
      obtain ⟨k, hk, rfl, hall, hF⟩ := hrel
      have Hall := hide hall
      clear hall
      by_cases hlt : k < n
      · obtain ⟨b1, o1, a1, n1, c1, cl, tm, rfl, _, _, hx1, hp1, _, e1, e2⟩ := TbA.get (TbA.fr h hF q0_no) hlt
        obtain ⟨b2, o2, a2, n2, c2, cl', tm', rfl, _, _, hx2, hp2, _, d1, d2⟩ := TbA.get (TbA.fr h' hF q0_no) hlt
        have g1 := World.block_lt_of_cell? wr _ d1
        have hlt' : (k : Int) < (n : Int) := by omega
        have qq : Q0 wr ((wr.alloc (.cells #[.slice a1 n1 c1, .int .i64 tm] 87)).alloc (.cells #[.slice a2 n2 c2, .int .i64 tm'] 87)) := ((Fr.refl _ wr).alloc _).alloc _
        have HP1 := hide (PrA.fr hp1 qq q0_no)
        have HP2 := hide (PrA.fr hp2 qq q0_no)
        clear hp1 hp2
        have HS := hide (take_step (unhide Hall) hx1 hx2)
        have HX1 := hide hx1
        have HX2 := hide hx2
        clear hx1 hx2
        by_cases hp : (cl, tm) = (cl', tm')
        · have hd := hide (decide_eq_true hp)
          have Hp := hide hp
          clear hp
          go_wp2_with (go_at_call 48; refine (sameTable_calls (unhide HP1) (unhide HP2) _ _ _ _).mono ?_; rw [unhide hd]; rintro e w2 ⟨rfl, hF2⟩)
          go_roundw
          case rel => exact ⟨k + 1, by omega, by go_num, unhide HS (unhide Hp), ((hF.alloc _).alloc _).then hF2⟩
          case measure => simp [intOf]; omega
        · have hd := hide (decide_eq_false hp)
          have HE := hide (show decide (l = l') = false from decide_eq_false (fun e => by subst e; have := (unhide HX1).symm.trans (unhide HX2); exact hp (Option.some.inj this)))
          clear hp
          go_wp2_with (go_at_call 48; refine (sameTable_calls (unhide HP1) (unhide HP2) _ _ _ _).mono ?_; rw [unhide hd]; rintro e w2 ⟨rfl, hF2⟩)
          go_ret
          exact ⟨mret_bool (unhide HE).symm, ((hF.alloc _).alloc _).then hF2⟩
      · have HA := hide (show decide (l = l') = true from decide_eq_true (by
          have e := unhide Hall
          rwa [List.take_of_length_le (by rw [unhide HL]; omega), List.take_of_length_le (by rw [unhide HL']; omega)] at e))
        go_wp2
        go_ret
        exact ⟨mret_bool (unhide HA).symm, hF⟩
  · have hb : ((n : Int) != (n' : Int)) = true := by rw [bne_iff_ne]; omega
    have HA := hide (show decide (l = l') = false from decide_eq_false (fun e => hnm (by rw [← hl, ← hl', e])))
    clear hnm hl hl'
    go_enter Try.func47, Try.ntmps47
    go_wp2
    go_ret
    exact ⟨mret_bool (unhide HA).symm, Fr.refl _ _⟩

end Go.Proofs.Ythdpgachdegcgaa
