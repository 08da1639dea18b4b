/-
  Same of package module: actors, modules.
-/
import Derived.Test.YthdpgachdegcgaaMoSame
namespace Go.Proofs.Ythdpgachdegcgaa
open Go.RowKit
set_option linter.unusedVariables false
set_option maxRecDepth 8192

theorem eqIns_val {lo hi lo' hi' : Nat} {w : World} {a a' : Option Addr} {n n' : Nat} {l l' : List (Int × Int)} {r : Bool} (hr : decide (l = l') = r) (h : PrA lo hi w a n l) (h' : PrA lo' hi' w a' n' l') (c c' : Nat) :
    Calls Try.prog 46 #[.slice a n c, .slice a' n' c'] w fun e w' => e = .returned (.bool r) ∧ ∃ q, w' = w.drewN q := by
  subst hr; exact eqIns_calls h h' c c'

set_option maxHeartbeats 2000000 in
theorem sameActor_calls {lo hi lo' hi' : Nat} {w : World} {s r : Fin 5 → Option Addr × Nat × Nat} {x y : Ac} (h : AcS lo hi w s x) (h' : AcS lo' hi' w r y) :
    Calls Try.prog 31 #[acV s, acV r] w fun e w' => e = .returned (.bool (decide (x = y))) ∧ Q0 w w' := by
  have q1 : Q0 w ((w.alloc (.cells #[slV (s 0), slV (s 1), slV (s 2), slV (s 3), slV (s 4)] 42)).alloc (.cells #[slV (r 0), slV (r 1), slV (r 2), slV (r 3), slV (r 4)] 42)) := ((Fr.refl _ w).alloc _).alloc _
  have H := hide (h.fr q1 q0_no)
  have H' := hide (h'.fr q1 q0_no)
  have HE := hide (show decide (x = y) = decide (x.ps = y.ps ∧ x.rs = y.rs ∧ x.ms = y.ms ∧ x.cs = y.cs ∧ x.ts = y.ts) from decide_eq_decide.2 (Ac.eq_iff x y))
  clear h h'
  by_cases e0 : x.ps = y.ps
  case neg =>
    have HR := hide (show decide (x = y) = false by rw [unhide HE]; simp [e0])
    have D0 := hide (decide_eq_false e0)
    clear HE e0
    go_enter Try.func31, Try.ntmps31
    go_wp2_with fail
    refine (ksame_val (unhide D0) (unhide H).ps (unhide H').ps _ _).mono ?_
    rintro e w' ⟨rfl, k0, rfl⟩
    go_wp2
    go_ret
    exact ⟨mret_bool (unhide HR).symm, q1.drewN _⟩
  by_cases e1 : x.rs = y.rs
  case neg =>
    have HR := hide (show decide (x = y) = false by rw [unhide HE]; simp [e1])
    have D0 := hide (decide_eq_true e0)
    have D1 := hide (decide_eq_false e1)
    clear HE e0 e1
    go_enter Try.func31, Try.ntmps31
    go_wp2_with fail
    refine (ksame_val (unhide D0) (unhide H).ps (unhide H').ps _ _).mono ?_
    rintro e w' ⟨rfl, k0, rfl⟩
    go_wp2_with fail
    refine (ksame_val (unhide D1) ((unhide H).fr ((Fr.refl (fun _ => False) _).drewN _) q0_no).rs ((unhide H').fr ((Fr.refl (fun _ => False) _).drewN _) q0_no).rs _ _).mono ?_
    rintro e w' ⟨rfl, k1, rfl⟩
    go_wp2
    go_ret
    exact ⟨mret_bool (unhide HR).symm, q1.drewN _⟩
  by_cases e2 : x.ms = y.ms
  case neg =>
    have HR := hide (show decide (x = y) = false by rw [unhide HE]; simp [e2])
    have D0 := hide (decide_eq_true e0)
    have D1 := hide (decide_eq_true e1)
    have D2 := hide (decide_eq_false e2)
    clear HE e0 e1 e2
    go_enter Try.func31, Try.ntmps31
    go_wp2_with fail
    refine (ksame_val (unhide D0) (unhide H).ps (unhide H').ps _ _).mono ?_
    rintro e w' ⟨rfl, k0, rfl⟩
    go_wp2_with fail
    refine (ksame_val (unhide D1) ((unhide H).fr ((Fr.refl (fun _ => False) _).drewN _) q0_no).rs ((unhide H').fr ((Fr.refl (fun _ => False) _).drewN _) q0_no).rs _ _).mono ?_
    rintro e w' ⟨rfl, k1, rfl⟩
    go_wp2_with fail
    refine (ksame_val (unhide D2) ((unhide H).fr ((Fr.refl (fun _ => False) _).drewN _) q0_no).ms ((unhide H').fr ((Fr.refl (fun _ => False) _).drewN _) q0_no).ms _ _).mono ?_
    rintro e w' ⟨rfl, k2, rfl⟩
    go_wp2
    go_ret
    exact ⟨mret_bool (unhide HR).symm, q1.drewN _⟩
  by_cases e3 : x.cs = y.cs
  case neg =>
    have HR := hide (show decide (x = y) = false by rw [unhide HE]; simp [e3])
    have D0 := hide (decide_eq_true e0)
    have D1 := hide (decide_eq_true e1)
    have D2 := hide (decide_eq_true e2)
    have D3 := hide (decide_eq_false e3)
    clear HE e0 e1 e2 e3
    go_enter Try.func31, Try.ntmps31
    go_wp2_with fail
    refine (ksame_val (unhide D0) (unhide H).ps (unhide H').ps _ _).mono ?_
    rintro e w' ⟨rfl, k0, rfl⟩
    go_wp2_with fail
    refine (ksame_val (unhide D1) ((unhide H).fr ((Fr.refl (fun _ => False) _).drewN _) q0_no).rs ((unhide H').fr ((Fr.refl (fun _ => False) _).drewN _) q0_no).rs _ _).mono ?_
    rintro e w' ⟨rfl, k1, rfl⟩
    go_wp2_with fail
    refine (ksame_val (unhide D2) ((unhide H).fr ((Fr.refl (fun _ => False) _).drewN _) q0_no).ms ((unhide H').fr ((Fr.refl (fun _ => False) _).drewN _) q0_no).ms _ _).mono ?_
    rintro e w' ⟨rfl, k2, rfl⟩
    go_wp2_with fail
    refine (eqIns_val (unhide D3) ((unhide H).fr ((Fr.refl (fun _ => False) _).drewN _) q0_no).cs ((unhide H').fr ((Fr.refl (fun _ => False) _).drewN _) q0_no).cs _ _).mono ?_
    rintro e w' ⟨rfl, k3, rfl⟩
    go_wp2
    go_ret
    exact ⟨mret_bool (unhide HR).symm, q1.drewN _⟩
  have HR := hide (show decide (x = y) = decide (x.ts = y.ts) by rw [unhide HE]; simp [e0, e1, e2, e3])
  have D0 := hide (decide_eq_true e0)
  have D1 := hide (decide_eq_true e1)
  have D2 := hide (decide_eq_true e2)
  have D3 := hide (decide_eq_true e3)
  clear HE e0 e1 e2 e3
  go_enter Try.func31, Try.ntmps31
  go_wp2_with fail
  refine (ksame_val (unhide D0) (unhide H).ps (unhide H').ps _ _).mono ?_
  rintro e w' ⟨rfl, k0, rfl⟩
  go_wp2_with fail
  refine (ksame_val (unhide D1) ((unhide H).fr ((Fr.refl (fun _ => False) _).drewN _) q0_no).rs ((unhide H').fr ((Fr.refl (fun _ => False) _).drewN _) q0_no).rs _ _).mono ?_
  rintro e w' ⟨rfl, k1, rfl⟩
  go_wp2_with fail
  refine (ksame_val (unhide D2) ((unhide H).fr ((Fr.refl (fun _ => False) _).drewN _) q0_no).ms ((unhide H').fr ((Fr.refl (fun _ => False) _).drewN _) q0_no).ms _ _).mono ?_
  rintro e w' ⟨rfl, k2, rfl⟩
  go_wp2_with fail
  refine (eqIns_val (unhide D3) ((unhide H).fr ((Fr.refl (fun _ => False) _).drewN _) q0_no).cs ((unhide H').fr ((Fr.refl (fun _ => False) _).drewN _) q0_no).cs _ _).mono ?_
  rintro e w' ⟨rfl, k3, rfl⟩
  go_wp2_with fail
  refine (eqTbs_calls ((unhide H).fr ((Fr.refl (fun _ => False) _).drewN _) q0_no).ts ((unhide H').fr ((Fr.refl (fun _ => False) _).drewN _) q0_no).ts _ _).mono ?_
  rintro e w6 ⟨rfl, hF6⟩
  go_wp2
  go_ret
  exact ⟨mret_bool (unhide HR).symm, (Fr.drewN q1 _).then hF6⟩

set_option maxHeartbeats 1000000 in
theorem eqAcs_calls {lo hi lo' hi' : Nat} {w : World} {a a' : Option Addr} {n n' : Nat} {l l' : List Ac} (h : AcA lo hi w a n l) (h' : AcA lo' hi' w a' n' l') (c c' : Nat) :
    Calls Try.prog 30 #[.slice a n c, .slice a' n' c', fnV 31] w fun e w' => e = .returned (.bool (decide (l = l'))) ∧ Q0 w w' := by
  have hs := h.small
  have hs' := h'.small
  have hl := h.len
  have hl' := h'.len
  by_cases hnm : n = n'
  · subst hnm
    have hb : ((n : Int) != (n : Int)) = false := by simp
    have HL := hide hl
    have HL' := hide hl'
    clear hl hl'
    go_enter Try.func30, Try.ntmps30
    go_wp2
    go_loopw [17] (fun i w' => ∃ k : Nat, k ≤ n ∧ i = .int .i64 k ∧ l.take k = l'.take k ∧ Q0 w w') (fun i w' => n - (intOf i).toNat)
    case atStart => exact ⟨0, Nat.zero_le _, rfl, rfl, Fr.refl _ _⟩
    case round =>
      obtain ⟨k, hk, rfl, hall, hF⟩ := hrel
      have Hall := hide hall
      clear hall
      by_cases hlt : k < n
      · obtain ⟨b1, o1, s1, x, rfl, _, _, hx1, hp1, e0, e1, e2, e3, e4⟩ := AcA.get (AcA.fr h hF q0_no) hlt
        obtain ⟨b2, o2, s2, y, rfl, _, _, hx2, hp2, d0, d1, d2, d3, d4⟩ := AcA.get (AcA.fr h' hF q0_no) hlt
        have g1 := World.block_lt_of_cell? wr _ d1
        have hlt' : (k : Int) < (n : Int) := by omega
        have qq : Q0 wr ((wr.alloc (.cells #[slV (s1 0), slV (s1 1), slV (s1 2), slV (s1 3), slV (s1 4)] 42)).alloc (.cells #[slV (s2 0), slV (s2 1), slV (s2 2), slV (s2 3), slV (s2 4)] 42)) := ((Fr.refl _ wr).alloc _).alloc _
        have HP1 := hide (hp1.fr qq q0_no)
        have HP2 := hide (hp2.fr qq q0_no)
        clear hp1 hp2
        have HS := hide (take_step (unhide Hall) hx1 hx2)
        have HX1 := hide hx1
        have HX2 := hide hx2
        clear hx1 hx2
        by_cases hp : x = y
        · have hd := hide (decide_eq_true hp)
          have Hp := hide hp
          clear hp
          go_wp2_with (go_at_call 31; refine (sameActor_calls (unhide HP1) (unhide HP2)).mono ?_; rw [unhide hd]; rintro e w2 ⟨rfl, hF2⟩)
          go_roundw
          case rel => exact ⟨k + 1, by omega, by go_num, unhide HS (unhide Hp), ((hF.alloc _).alloc _).then hF2⟩
          case measure => simp [intOf]; omega
        · have hd := hide (decide_eq_false hp)
          have HE := hide (show decide (l = l') = false from decide_eq_false (fun e => by subst e; have := (unhide HX1).symm.trans (unhide HX2); exact hp (Option.some.inj this)))
          clear hp
          go_wp2_with (go_at_call 31; refine (sameActor_calls (unhide HP1) (unhide HP2)).mono ?_; rw [unhide hd]; rintro e w2 ⟨rfl, hF2⟩)
          go_ret
          exact ⟨mret_bool (unhide HE).symm, ((hF.alloc _).alloc _).then hF2⟩
      · have HA := hide (show decide (l = l') = true from decide_eq_true (by
          have e := unhide Hall
          rwa [List.take_of_length_le (by rw [unhide HL]; omega), List.take_of_length_le (by rw [unhide HL']; omega)] at e))
        go_wp2
        go_ret
        exact ⟨mret_bool (unhide HA).symm, hF⟩
  · have hb : ((n : Int) != (n' : Int)) = true := by rw [bne_iff_ne]; omega
    have HA := hide (show decide (l = l') = false from decide_eq_false (fun e => hnm (by rw [← hl, ← hl', e])))
    clear hnm hl hl'
    go_enter Try.func30, Try.ntmps30
    go_wp2
    go_ret
    exact ⟨mret_bool (unhide HA).symm, Fr.refl _ _⟩

set_option maxHeartbeats 1000000 in
theorem msame_calls {lo hi lo' hi' : Nat} {w : World} {a a' : Option Addr} {n n' : Nat} {m m' : List Ac} (h : AcA lo hi w a n m) (h' : AcA lo' hi' w a' n' m') (c c' : Nat) :
    Calls Try.prog 11 #[moV a n c, moV a' n' c'] w fun e w' => e = .returned (.bool (decide (m = m'))) ∧ Q0 w w' := by
  have q1 : Q0 w ((w.alloc (.cells #[.slice a n c] 25)).alloc (.cells #[.slice a' n' c'] 25)) := ((Fr.refl _ w).alloc _).alloc _
  have H := hide (AcA.fr h q1 q0_no)
  have H' := hide (AcA.fr h' q1 q0_no)
  clear h h'
  go_enter Try.func11, Try.ntmps11
  go_wp2_with (go_at_call 30; refine (eqAcs_calls (unhide H) (unhide H') _ _).mono ?_; rintro e w2 ⟨rfl, hF2⟩)
  go_ret
  exact ⟨rfl, q1.then hF2⟩

end Go.Proofs.Ythdpgachdegcgaa
