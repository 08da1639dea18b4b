/-
  The document's Right of modules: well.
-/
import Derived.Test.YtkcljnfalimlgaaMoRefRight
namespace Go.Proofs.Ytkcljnfalimlgaa
open Go.RowKit
set_option linter.unusedVariables false
set_option maxRecDepth 100000

theorem kall_rval {lo hi : Nat} {w : World} {a : Option Addr} {n : Nat} {l : List Int} {m : Int} {r : Bool} (hr : l.all (krightB · m) = r) (h : TyA lo hi w a n l) (c : Nat) :
    Calls Try.prog 58 #[.slice a n c, .int .i64 m] w fun e w' => e = .returned (.bool r) ∧ w = w' := by
  subst hr; exact kall_ref h c m

theorem take_step2 {α : Type} {l l' : List α} {k : Nat} {x y : α} (h : l.take k = l'.take k) (hx : l[k]? = some x) (hy : l'[k]? = some y) : x = y → l.take (k + 1) = l'.take (k + 1) := by
  rintro rfl
  obtain ⟨h1, rfl⟩ := List.getElem?_eq_some_iff.1 hx
  obtain ⟨h2, e⟩ := List.getElem?_eq_some_iff.1 hy
  rw [List.take_succ_eq_append_getElem h1, List.take_succ_eq_append_getElem h2, h, e]

theorem rightA_all {x : Ac} {m : Int} (h : rightA x m = true) : x.ps.all (krightB · m) = true ∧ x.rs.all (krightB · m) = true ∧ x.ms.all (krightB · m) = true ∧ x.ps.length ≤ x.rs.length ∧ x.cs.length ≠ 0 ∧ x.ps = x.rs.take x.ps.length := by
  obtain ⟨h1, h2, h3, h4, h5, h6⟩ := rightA_yes h
  refine ⟨List.all_eq_true.2 fun t ht => h1 t (h3.subset ht), List.all_eq_true.2 h1, List.all_eq_true.2 h2, h3.length_le, fun e => h5 (List.length_eq_zero_iff.1 e), ?_⟩
  obtain ⟨r, e⟩ := h3
  rw [← e]; simp

theorem rightA_mk {x : Ac} {m : Int} (h1 : x.rs.all (krightB · m) = true) (h2 : x.ms.all (krightB · m) = true) (h3 : x.ps = x.rs.take x.ps.length) (h4 : x.cs.all (fun i => rightB i.1 i.2) = true) (h5 : x.cs.length ≠ 0) (h6 : x.ts.all rtabB = true) : rightA x m = true := by
  unfold rightA rtypesB rcodeB rtabsB
  rw [h1, h2, h4, h6, prefix_take, decide_eq_true h3]
  cases hc : x.cs with
  | nil => rw [hc] at h5; simp at h5
  | cons _ _ => rfl

set_option maxHeartbeats 4000000 in
theorem well_calls {lo hi : Nat} {w : World} {s : Fin 5 → Option Addr × Nat × Nat} {x : Ac} (h : AcS lo hi w s x) (m : Int) :
    Calls Try.prog 35 #[acV s, .int .i64 m] w fun e w' => e = .returned (.bool (rightA x m)) ∧ Q0 w w' := by
  obtain ⟨a0, n0, c0, a1, n1, c1, a2, n2, c2, a3, n3, c3, a4, n4, c4, hv, h0, h1, h2, h3, h4, r0, r1⟩ := h.parts
  rw [hv]
  have s0 := h0.small
  have s1 := h1.small
  have s2 := h2.small
  have s3 := h3.small
  have s4 := h4.small
  have q1 : Q0 w (w.alloc (.cells #[.slice a0 n0 c0, .slice a1 n1 c1, .slice a2 n2 c2, .slice a3 n3 c3, .slice a4 n4 c4] 42)) := (Fr.refl _ w).alloc _
  have bb : (w.alloc (.cells #[.slice a0 n0 c0, .slice a1 n1 c1, .slice a2 n2 c2, .slice a3 n3 c3, .slice a4 n4 c4] 42)).heap[w.heap.size]? = some (.cells #[.slice a0 n0 c0, .slice a1 n1 c1, .slice a2 n2 c2, .slice a3 n3 c3, .slice a4 n4 c4] 42 (0, 0)) := blk_new w _
  have BB := hide bb
  have HP := hide (TyA.fr h0 q1 q0_no)
  have HR := hide (TyA.fr h1 q1 q0_no)
  have HM := hide (TyA.fr h2 q1 q0_no)
  have HC := hide (PrA.fr h3 q1 q0_no)
  have HT := hide (TbA.fr h4 q1 q0_no)
  have HNo := hide (show ¬ (x.ps.all (krightB · m) = true ∧ x.rs.all (krightB · m) = true ∧ x.ms.all (krightB · m) = true ∧ x.ps.length ≤ x.rs.length ∧ x.cs.length ≠ 0 ∧ x.ps = x.rs.take x.ps.length) → rightA x m = false from fun hn => by
    cases hA : rightA x m
    · rfl
    · exact absurd (rightA_all hA) hn)
  have L0 := hide h0.len
  have L1 := hide h1.len
  have L3 := hide h3.len
  have L4 := hide h4.len
  clear h h0 h1 h2 h3 h4 hv bb
  cases t0 : x.ps.all (krightB · m)
  · have D0 := hide t0
    have HE := hide (unhide HNo (fun hn => by rw [t0] at hn; exact absurd hn.1 (by simp)))
    clear t0
    go_enter Try.func35, Try.ntmps35
    go_wp2_with fail
    refine (kall_rval (unhide D0) (unhide HP) _).mono ?_
    rintro e w' ⟨rfl, rfl⟩
    go_wp2
    go_ret
    exact ⟨mret_bool (unhide HE).symm, q1⟩
  cases t1 : x.rs.all (krightB · m)
  · have D0 := hide t0
    have D1 := hide t1
    have HE := hide (unhide HNo (fun hn => by rw [t1] at hn; exact absurd hn.2.1 (by simp)))
    clear t0 t1
    go_enter Try.func35, Try.ntmps35
    go_wp2_with fail
    refine (kall_rval (unhide D0) (unhide HP) _).mono ?_
    rintro e w' ⟨rfl, rfl⟩
    go_wp2_with fail
    refine (kall_rval (unhide D1) (unhide HR) _).mono ?_
    rintro e w' ⟨rfl, rfl⟩
    go_wp2
    go_ret
    exact ⟨mret_bool (unhide HE).symm, q1⟩
  cases t2 : x.ms.all (krightB · m)
  · have D0 := hide t0
    have D1 := hide t1
    have D2 := hide t2
    have HE := hide (unhide HNo (fun hn => by rw [t2] at hn; exact absurd hn.2.2.1 (by simp)))
    clear t0 t1 t2
    go_enter Try.func35, Try.ntmps35
    go_wp2_with fail
    refine (kall_rval (unhide D0) (unhide HP) _).mono ?_
    rintro e w' ⟨rfl, rfl⟩
    go_wp2_with fail
    refine (kall_rval (unhide D1) (unhide HR) _).mono ?_
    rintro e w' ⟨rfl, rfl⟩
    go_wp2_with fail
    refine (kall_rval (unhide D2) (unhide HM) _).mono ?_
    rintro e w' ⟨rfl, rfl⟩
    go_wp2
    go_ret
    exact ⟨mret_bool (unhide HE).symm, q1⟩
  have D0 := hide t0
  have D1 := hide t1
  have D2 := hide t2
  clear t0 t1 t2
  by_cases t3 : (n0 : Int) > (n1 : Int)
  · have HE := hide (unhide HNo (fun hn => by have := hn.2.2.2.1; rw [unhide L0, unhide L1] at this; omega))
    go_enter Try.func35, Try.ntmps35
    go_wp2_with fail
    refine (kall_rval (unhide D0) (unhide HP) _).mono ?_
    rintro e w' ⟨rfl, rfl⟩
    go_wp2_with fail
    refine (kall_rval (unhide D1) (unhide HR) _).mono ?_
    rintro e w' ⟨rfl, rfl⟩
    go_wp2_with fail
    refine (kall_rval (unhide D2) (unhide HM) _).mono ?_
    rintro e w' ⟨rfl, rfl⟩
    go_wp2
    go_ret
    exact ⟨mret_bool (unhide HE).symm, q1⟩
  by_cases t4 : n3 = 0
  · have HE := hide (unhide HNo (fun hn => by have := hn.2.2.2.2.1; rw [unhide L3] at this; omega))
    subst t4
    go_enter Try.func35, Try.ntmps35
    go_wp2_with fail
    refine (kall_rval (unhide D0) (unhide HP) _).mono ?_
    rintro e w' ⟨rfl, rfl⟩
    go_wp2_with fail
    refine (kall_rval (unhide D1) (unhide HR) _).mono ?_
    rintro e w' ⟨rfl, rfl⟩
    go_wp2_with fail
    refine (kall_rval (unhide D2) (unhide HM) _).mono ?_
    rintro e w' ⟨rfl, rfl⟩
    go_wp2
    go_ret
    exact ⟨mret_bool (unhide HE).symm, q1⟩
  have hb4 : ((n3 : Int) == 0) = false := by rw [beq_eq_false_iff_ne]; omega
  have H4 := hide t4
  have ht3 : n0 ≤ n1 := by omega
  have hd3 : decide ((n1 : Int) < (n0 : Int)) = false := decide_eq_false (by omega)
  have hd4 : decide (n1 < n0) = false := decide_eq_false (by omega)
  clear t4
  go_enter Try.func35, Try.ntmps35
  go_wp2_with fail
  refine (kall_rval (unhide D0) (unhide HP) _).mono ?_
  rintro e w' ⟨rfl, rfl⟩
  go_wp2_with fail
  refine (kall_rval (unhide D1) (unhide HR) _).mono ?_
  rintro e w' ⟨rfl, rfl⟩
  go_wp2_with fail
  refine (kall_rval (unhide D2) (unhide HM) _).mono ?_
  rintro e w' ⟨rfl, rfl⟩
  go_wp2
  generalize w.alloc (.cells #[.slice a0 n0 c0, .slice a1 n1 c1, .slice a2 n2 c2, .slice a3 n3 c3, .slice a4 n4 c4] 42) = w1 at *
  have f0 := cell_at (unhide BB) 0
  have f1 := cell_at (unhide BB) 1
  simp at f0 f1
  go_loopw [5] (fun i w' => ∃ k q : Nat, k ≤ n0 ∧ i = .int .i64 k ∧ x.ps.take k = x.rs.take k ∧ w' = w1.drewN q) (fun i w' => n0 - (intOf i).toNat)
  case atStart => exact ⟨0, 0, Nat.zero_le _, rfl, rfl, rfl⟩
  case round =>
    obtain ⟨k, q, hk, rfl, hall, rfl⟩ := hrel
    have Hall := hide hall
    clear hall
    by_cases hlt : k < n0
    · obtain ⟨b1, o1, t, e1, _, _, hx1, _, g1⟩ := TyA.get (unhide HP) hlt
      obtain ⟨b2, o2, t', e2, _, _, hx2, _, g2⟩ := TyA.get (unhide HR) (show k < n1 by omega)
      have hlt' : (k : Int) < (n0 : Int) := by omega
      have hlt2 : (k : Int) < (n1 : Int) := by omega
      have HS := hide (take_step2 (unhide Hall) hx1 hx2)
      have HX1 := hide hx1
      have HX2 := hide hx2
      subst e1
      subst e2
      clear hx1 hx2
      by_cases ht : t = t'
      · subst ht
        have hb : (t != t) = false := by simp
        go_wp2
        go_quiet (fail)
        go_wp2
        go_roundw
        case rel => exact ⟨k + 1, _, by omega, by go_num, unhide HS (by first | trivial | rfl), rfl⟩
        case measure => simp [intOf]; omega
      · have hb : (t != t') = true := by simp [ht]
        have HE := hide (unhide HNo (fun hn => by
          have e := hn.2.2.2.2.2
          have := unhide HX1
          rw [e, List.getElem?_take, unhide L0, if_pos hlt, unhide HX2] at this
          exact ht (Option.some.inj this).symm))
        clear ht
        go_wp2
        go_quiet (fail)
        go_wp2
        go_ret
        exact ⟨mret_bool (unhide HE).symm, (q1.drewN _).drewN _⟩
    · have HPre := hide (show x.ps = x.rs.take x.ps.length by
        have e := unhide Hall
        have hk0 : k = n0 := by omega
        rw [hk0, List.take_of_length_le (by rw [unhide L0]; omega)] at e
        rw [unhide L0]; exact e)
      clear Hall
      have Q1 := hide (Fr.drewN q1 q)
      have qd : Q0 w1 (w1.drewN q) := (Fr.refl _ w1).drewN q
      have BB2 := hide (qd.blk (unhide BB) (fun h => h))
      have HC2 := hide (PrA.fr (unhide HC) qd q0_no)
      have HT2 := hide (TbA.fr (unhide HT) qd q0_no)
      go_wp2
      clear f0 f1
      generalize w1.drewN q = w2 at *
      clear qd
      go_loopw [6] (fun i w' => ∃ k : Nat, k ≤ n3 ∧ i = .int .i64 k ∧ (∀ (j : Nat) y, j < k → x.cs[j]? = some y → rightB y.1 y.2 = true) ∧ Q0 w2 w') (fun i w' => n3 - (intOf i).toNat)
      case atStart => exact ⟨0, Nat.zero_le _, rfl, fun j y hj => absurd hj (by omega), Fr.refl _ _⟩
      case round =>
        obtain ⟨k, hk, rfl, hall, hF⟩ := hrel
        have Hall := hide hall
        clear hall
        have f3 := cell_at (hF.blk (unhide BB2) (fun h => h)) 3
        simp at f3
        by_cases hlt : k < n3
        · obtain ⟨b, off, p, z, ea, _, _, hx, _, hz, g0, g1⟩ := PrA.get (PrA.fr (unhide HC2) hF q0_no) hlt
          have HX := hide hx
          have HZ := hide hz
          subst ea
          clear hx
          cases hr : rightB p z
          · have hd := hide hr
            have HE := hide (show rightA x m = false by
              cases hA : rightA x m
              · rfl
              · have := (rightA_yes hA).2.2.2.1 (p, z) (List.mem_of_getElem? (unhide HX)); rw [show rightB (p, z).1 (p, z).2 = false from hr] at this; exact absurd this (by simp))
            clear hr
            go_wp2_with (go_at_call 59; refine (xright_calls _ _ _ (unhide HZ)).mono ?_; rw [unhide hd]; rintro e w3 ⟨rfl, hF3⟩)
            go_ret
            exact ⟨mret_bool (unhide HE).symm, ((unhide Q1).then hF).then hF3⟩
          · have hd := hide hr
            clear hr
            go_wp2_with (go_at_call 59; refine (xright_calls _ _ _ (unhide HZ)).mono ?_; rw [unhide hd]; rintro e w3 ⟨rfl, hF3⟩)
            go_roundw
            case rel => exact ⟨k + 1, by omega, by go_num, below_step (f := fun y => rightB y.1 y.2) (unhide Hall) (unhide HX) (unhide hd), hF.then hF3⟩
            case measure => simp [intOf]; omega
        · have HCs := hide (show x.cs.all (fun i => rightB i.1 i.2) = true from all_upto (fun j y hy => unhide Hall j y (by have := (List.getElem?_eq_some_iff.1 hy).1; have := unhide L3; omega) hy))
          have BB3 := hide (hF.blk (unhide BB2) (fun h => h))
          have HT3 := hide (TbA.fr (unhide HT2) hF q0_no)
          have Q2 := hide ((unhide Q1).then hF)
          clear Hall
          go_wp2
          clear f3
          generalize wr = w4 at *
          go_loopw [7] (fun i w' => ∃ k : Nat, k ≤ n4 ∧ i = .int .i64 k ∧ (∀ (j : Nat) y, j < k → x.ts[j]? = some y → rtabB y = true) ∧ Q0 w4 w') (fun i w' => n4 - (intOf i).toNat)
          case atStart => exact ⟨0, Nat.zero_le _, rfl, fun j y hj => absurd hj (by omega), Fr.refl _ _⟩
          case round =>
            obtain ⟨k, hk, rfl, hall, hF4⟩ := hrel
            have Hall := hide hall
            clear hall
            have f4 := cell_at (hF4.blk (unhide BB3) (fun h => h)) 4
            simp at f4
            by_cases hlt : k < n4
            · obtain ⟨b, off, a', n', c', cl, tm, ea, _, _, hx, hp, _, g0, g1⟩ := TbA.get (TbA.fr (unhide HT3) hF4 q0_no) hlt
              have HX := hide hx
              have hps := hp.small
              have HNT := hide (show rtabB (cl, tm) = false → rightA x m = false from fun hf => by
                cases hA : rightA x m
                · rfl
                · have := (rightA_yes hA).2.2.2.2.2 (cl, tm) (List.mem_of_getElem? (unhide HX)); rw [hf] at this; exact absurd this (by simp))
              subst ea
              clear hx
              have qb : Q0 wr (wr.alloc (.cells #[.slice a' n' c', .int .i64 tm] 76)) := (Fr.refl _ _).alloc _
              have HPc := hide (PrA.fr hp qb q0_no)
              have QQ := hide (((unhide Q2).then hF4).then qb)
              have hF5 := hF4.then qb
              have bt : (wr.alloc (.cells #[.slice a' n' c', .int .i64 tm] 76)).heap[wr.heap.size]? = some (.cells #[.slice a' n' c', .int .i64 tm] 76 (0, 0)) := blk_new _ _
              have BT := hide bt
              clear hp bt
              by_cases u1 : tm < -1
              · have HE := hide (unhide HNT (by unfold rtabB timeB; simp; omega))
                go_wp2
                go_ret
                exact ⟨mret_bool (unhide HE).symm, unhide QQ⟩
              by_cases u2 : tm ≥ 200
              · have HE := hide (unhide HNT (by unfold rtabB timeB; simp; omega))
                go_wp2
                go_ret
                exact ⟨mret_bool (unhide HE).symm, unhide QQ⟩
              have HTm := hide (show timeB tm = true by unfold timeB; simp; omega)
              go_wp2
              generalize wr.alloc (.cells #[.slice a' n' c', .int .i64 tm] 76) = w5 at *
              go_loopw [9] (fun i w' => ∃ k : Nat, k ≤ n' ∧ i = .int .i64 k ∧ (∀ (j : Nat) y, j < k → cl[j]? = some y → clauseB y = true) ∧ Q0 w5 w') (fun i w' => n' - (intOf i).toNat)
              case atStart => exact ⟨0, Nat.zero_le _, rfl, fun j y hj => absurd hj (by omega), Fr.refl _ _⟩
              case round =>
                obtain ⟨i, hi, rfl, hall2, hF6⟩ := hrel
                have Hall2 := hide hall2
                clear hall2
                have ft := cell_at (hF6.blk (unhide BT) (fun h => h)) 0
                simp at ft
                by_cases hlt2 : i < n'
                · obtain ⟨b2, off2, p, z, eb, _, _, hx2, _, _, d0, d1⟩ := PrA.get (PrA.fr (unhide HPc) hF6 q0_no) hlt2
                  have HX2 := hide hx2
                  subst eb
                  clear hx2
                  have HNC := hide (show clauseB (p, z) = false → rightA x m = false from fun hf => unhide HNT (by unfold rtabB; rw [all_not (unhide HX2) hf]; simp))
                  by_cases v1 : p < 0
                  · have HE := hide (unhide HNC (by unfold clauseB; simp; omega))
                    go_wp2
                    go_ret
                    exact ⟨mret_bool (unhide HE).symm, ((unhide QQ).then hF6).alloc _⟩
                  by_cases v2 : p ≥ 8
                  · have HE := hide (unhide HNC (by unfold clauseB; simp; omega))
                    go_wp2
                    go_ret
                    exact ⟨mret_bool (unhide HE).symm, ((unhide QQ).then hF6).alloc _⟩
                  by_cases v3 : z < 0
                  · have HE := hide (unhide HNC (by unfold clauseB; simp; omega))
                    go_wp2
                    go_ret
                    exact ⟨mret_bool (unhide HE).symm, ((unhide QQ).then hF6).alloc _⟩
                  by_cases v4 : z ≥ 200
                  · have HE := hide (unhide HNC (by unfold clauseB; simp; omega))
                    go_wp2
                    go_ret
                    exact ⟨mret_bool (unhide HE).symm, ((unhide QQ).then hF6).alloc _⟩
                  have HY := hide (show clauseB (p, z) = true by unfold clauseB; simp; omega)
                  go_wp2
                  go_roundw
                  case rel => exact ⟨i + 1, by omega, by go_num, below_step (unhide Hall2) (unhide HX2) (unhide HY), hF6.alloc _⟩
                  case measure => simp [intOf]; omega
                · have HY := hide (show rtabB (cl, tm) = true by
                    have hl := (unhide HPc).len
                    unfold rtabB
                    rw [all_upto (fun j y hy => unhide Hall2 j y (by have := (List.getElem?_eq_some_iff.1 hy).1; omega) hy)]
                    simp; exact unhide HTm)
                  go_wp2
                  go_roundw
                  case rel => exact ⟨k + 1, by omega, by go_num, below_step (unhide Hall) (unhide HX) (unhide HY), hF5.then hF6⟩
                  case measure => simp [intOf]; omega
            · have HE := hide (show rightA x m = true from rightA_mk (unhide D1) (unhide D2) (unhide HPre) (unhide HCs) (by rw [unhide L3]; exact unhide H4)
                (all_upto (fun j y hy => unhide Hall j y (by have := (List.getElem?_eq_some_iff.1 hy).1; have := unhide L4; omega) hy)))
              go_wp2
              go_ret
              exact ⟨mret_bool (unhide HE).symm, (unhide Q2).then hF4⟩

end Go.Proofs.Ytkcljnfalimlgaa
