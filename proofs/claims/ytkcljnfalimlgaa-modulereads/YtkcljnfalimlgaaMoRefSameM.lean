/-
  The document's Same of modules: actors.
-/
import Derived.Test.YtkcljnfalimlgaaMoRefSame
namespace Go.Proofs.Ytkcljnfalimlgaa
open Go.RowKit
set_option linter.unusedVariables false
set_option maxRecDepth 8192

theorem blk_new2 (w : World) (o1 o2 : Obj) : ((w.alloc o1).alloc o2).heap[w.heap.size + 1]? = some o2 := by
  have := blk_new (w.alloc o1) o2
  simpa using this

theorem eqt_val {lo hi lo' hi' : Nat} {w : World} {a a' : Option Addr} {n n' : Nat} {l l' : List Int} {r : Bool} (hr : decide (l = l') = r) (h : TyA lo hi w a n l) (h' : TyA lo' hi' w a' n' l') (c c' : Nat) :
    Calls Try.prog 16 #[.slice a n c, .slice a' n' c'] w fun e w' => e = .returned (.bool r) ∧ ∃ q, w' = w.drewN q := by
  subst hr; exact ksame_ref h h' c c'
theorem xst_val {lo hi lo' hi' : Nat} {w : World} {a a' : Option Addr} {n n' : Nat} {l l' : List (List (Int × Int) × Int)} {r : Bool} (hr : decide (l = l') = r) (h : TbA lo hi w a n l) (h' : TbA lo' hi' w a' n' l') (c c' : Nat) :
    Calls Try.prog 47 #[.slice a n c, .slice a' n' c'] w fun e w' => e = .returned (.bool r) ∧ ∃ q, w' = w.drewN q := by
  subst hr; exact xsameTables_calls h h' c c'

set_option maxHeartbeats 1000000 in
theorem xsame_calls {lo hi lo' hi' : Nat} {w : World} {a a' : Option Addr} {n n' : Nat} {l l' : List Ac} (h : AcA lo hi w a n l) (h' : AcA lo' hi' w a' n' l') (c c' : Nat) :
    Calls Try.prog 25 #[moV a n c, moV a' n' c'] w fun e w' => e = .returned (.bool (decide (l = l'))) ∧ Q0 w w' := by
  have hs := h.small
  have hs' := h'.small
  have hl := h.len
  have hl' := h'.len
  have q1 : Q0 w ((w.alloc (.cells #[.slice a n c] 24)).alloc (.cells #[.slice a' n' c'] 24)) := ((Fr.refl _ w).alloc _).alloc _
  have b1 : ((w.alloc (.cells #[.slice a n c] 24)).alloc (.cells #[.slice a' n' c'] 24)).heap[w.heap.size]? = some (.cells #[.slice a n c] 24 (0, 0)) := blk_alloc (blk_new w _)
  have b2 : ((w.alloc (.cells #[.slice a n c] 24)).alloc (.cells #[.slice a' n' c'] 24)).heap[w.heap.size + 1]? = some (.cells #[.slice a' n' c'] 24 (0, 0)) := by
    have := blk_new (w.alloc (.cells #[.slice a n c] 24)) (.cells #[.slice a' n' c'] 24)
    simpa using this
  have H := hide (AcA.fr h q1 q0_no)
  have H' := hide (AcA.fr h' q1 q0_no)
  have B1 := hide b1
  have B2 := hide b2
  clear h h' b1 b2
  by_cases hnm : n = n'
  · subst hnm
    have hb : ((n : Int) != (n : Int)) = false := by simp
    have HL := hide hl
    have HL' := hide hl'
    clear hl hl'
    go_enter Try.func25, Try.ntmps25
    go_wp2
    generalize (w.alloc (.cells #[.slice a n c] 24)).alloc (.cells #[.slice a' n c'] 24) = w1 at *
    go_loopw [5] (fun i w' => ∃ k : Nat, k ≤ n ∧ i = .int .i64 k ∧ l.take k = l'.take k ∧ Q0 w1 w') (fun i w' => n - (intOf i).toNat)
    case atStart => exact ⟨0, Nat.zero_le _, rfl, rfl, Fr.refl _ _⟩
    case round =>
      obtain ⟨k, hk, rfl, hall, hF⟩ := hrel
      have Hall := hide hall
      clear hall
      have m1 := cell_at (hF.blk (unhide B1) (fun h => h)) 0
      have m2 := cell_at (hF.blk (unhide B2) (fun h => h)) 0
      simp at m1 m2
      have gA := lt_of_blk (hF.blk (unhide B1) (fun h => h))
      have gB := lt_of_blk (hF.blk (unhide B2) (fun h => h))
      by_cases hlt : k < n
      · obtain ⟨b1, o1, s, x, rfl, _, _, hx1, hp1, e0, e1, e2, e3, e4⟩ := AcA.get (AcA.fr (unhide H) hF q0_no) hlt
        obtain ⟨b2, o2, r, y, rfl, _, _, hx2, hp2, d0, d1, d2, d3, d4⟩ := AcA.get (AcA.fr (unhide H') hF q0_no) hlt
        have g1 := World.block_lt_of_cell? wr _ d1
        have g2 := World.block_lt_of_cell? wr _ e1
        have hlt' : (k : Int) < (n : Int) := by omega
        have HS := hide (take_step (unhide Hall) hx1 hx2)
        have HX1 := hide hx1
        have HX2 := hide hx2
        have HNE := hide (show x ≠ y → decide (l = l') = false from fun hp => decide_eq_false (fun e => by subst e; have := (unhide HX1).symm.trans (unhide HX2); exact hp (Option.some.inj this)))
        have HP1 := hide hp1
        have HP2 := hide hp2
        clear hx1 hx2 hp1 hp2
        have SG : ∀ w', Q0 wr w' → w'.cell? ⟨w.heap.size, 0, none⟩ = some (.slice (some ⟨b1, o1, none⟩) n c) ∧ w'.cell? ⟨w.heap.size + 1, 0, none⟩ = some (.slice (some ⟨b2, o2, none⟩) n c') ∧ w'.cell? ⟨b1, o1 + k * 5, none⟩ = some (.slice (s 0).1 (s 0).2.1 (s 0).2.2) ∧ w'.cell? ⟨b1, o1 + k * 5 + 1, none⟩ = some (.slice (s 1).1 (s 1).2.1 (s 1).2.2) ∧ w'.cell? ⟨b1, o1 + k * 5 + 2, none⟩ = some (.slice (s 2).1 (s 2).2.1 (s 2).2.2) ∧ w'.cell? ⟨b1, o1 + k * 5 + 3, none⟩ = some (.slice (s 3).1 (s 3).2.1 (s 3).2.2) ∧ w'.cell? ⟨b1, o1 + k * 5 + 4, none⟩ = some (.slice (s 4).1 (s 4).2.1 (s 4).2.2) ∧ w'.cell? ⟨b2, o2 + k * 5, none⟩ = some (.slice (r 0).1 (r 0).2.1 (r 0).2.2) ∧ w'.cell? ⟨b2, o2 + k * 5 + 1, none⟩ = some (.slice (r 1).1 (r 1).2.1 (r 1).2.2) ∧ w'.cell? ⟨b2, o2 + k * 5 + 2, none⟩ = some (.slice (r 2).1 (r 2).2.1 (r 2).2.2) ∧ w'.cell? ⟨b2, o2 + k * 5 + 3, none⟩ = some (.slice (r 3).1 (r 3).2.1 (r 3).2.2) ∧ w'.cell? ⟨b2, o2 + k * 5 + 4, none⟩ = some (.slice (r 4).1 (r 4).2.1 (r 4).2.2) ∧ Q0 wr w' := fun w' hq => ⟨cell_fr hq (fun h => h) m1, cell_fr hq (fun h => h) m2, cell_fr hq (fun h => h) e0, cell_fr hq (fun h => h) e1, cell_fr hq (fun h => h) e2, cell_fr hq (fun h => h) e3, cell_fr hq (fun h => h) e4, cell_fr hq (fun h => h) d0, cell_fr hq (fun h => h) d1, cell_fr hq (fun h => h) d2, cell_fr hq (fun h => h) d3, cell_fr hq (fun h => h) d4, hq⟩
        have hq0 : Q0 wr wr := Fr.refl _ _
        go_wp2
        go_region_held3 (fun w' => w'.cell? ⟨w.heap.size, 0, none⟩ = some (.slice (some ⟨b1, o1, none⟩) n c) ∧ w'.cell? ⟨w.heap.size + 1, 0, none⟩ = some (.slice (some ⟨b2, o2, none⟩) n c') ∧ w'.cell? ⟨b1, o1 + k * 5, none⟩ = some (.slice (s 0).1 (s 0).2.1 (s 0).2.2) ∧ w'.cell? ⟨b1, o1 + k * 5 + 1, none⟩ = some (.slice (s 1).1 (s 1).2.1 (s 1).2.2) ∧ w'.cell? ⟨b1, o1 + k * 5 + 2, none⟩ = some (.slice (s 2).1 (s 2).2.1 (s 2).2.2) ∧ w'.cell? ⟨b1, o1 + k * 5 + 3, none⟩ = some (.slice (s 3).1 (s 3).2.1 (s 3).2.2) ∧ w'.cell? ⟨b1, o1 + k * 5 + 4, none⟩ = some (.slice (s 4).1 (s 4).2.1 (s 4).2.2) ∧ w'.cell? ⟨b2, o2 + k * 5, none⟩ = some (.slice (r 0).1 (r 0).2.1 (r 0).2.2) ∧ w'.cell? ⟨b2, o2 + k * 5 + 1, none⟩ = some (.slice (r 1).1 (r 1).2.1 (r 1).2.2) ∧ w'.cell? ⟨b2, o2 + k * 5 + 2, none⟩ = some (.slice (r 2).1 (r 2).2.1 (r 2).2.2) ∧ w'.cell? ⟨b2, o2 + k * 5 + 3, none⟩ = some (.slice (r 3).1 (r 3).2.1 (r 3).2.2) ∧ w'.cell? ⟨b2, o2 + k * 5 + 4, none⟩ = some (.slice (r 4).1 (r 4).2.1 (r 4).2.2) ∧ Q0 wr w') ((refine SG _ ?_; first | assumption | (repeat (first | exact Fr.refl _ _ | refine Fr.drew ?_ | refine Fr.alloc ?_ _ | refine Fr.setAt ?_ _ _ _ (.inl (by simp))))))
          (fail)
        all_goals
          clear SG hq0
          first
          | (have KX : ((wr.alloc (.cells #[slV (s 0), slV (s 1), slV (s 2), slV (s 3), slV (s 4)] 42)).alloc (.cells #[slV (r 0), slV (r 1), slV (r 2), slV (r 3), slV (r 4)] 42)).drew.heap[wr.heap.size]? = some (.cells #[slV (s 0), slV (s 1), slV (s 2), slV (s 3), slV (s 4)] 42 (0, 0)) := blk_alloc (blk_new wr _)
             have KY : ((wr.alloc (.cells #[slV (s 0), slV (s 1), slV (s 2), slV (s 3), slV (s 4)] 42)).alloc (.cells #[slV (r 0), slV (r 1), slV (r 2), slV (r 3), slV (r 4)] 42)).drew.heap[wr.heap.size + 1]? = some (.cells #[slV (r 0), slV (r 1), slV (r 2), slV (r 3), slV (r 4)] 42 (0, 0)) := blk_new2 wr _ _
             have QW : Q0 wr ((wr.alloc (.cells #[slV (s 0), slV (s 1), slV (s 2), slV (s 3), slV (s 4)] 42)).alloc (.cells #[slV (r 0), slV (r 1), slV (r 2), slV (r 3), slV (r 4)] 42)).drew := (((Fr.refl _ wr).alloc _).alloc _).drew
             obtain ⟨W1, eW⟩ : ∃ W1, ((wr.alloc (.cells #[slV (s 0), slV (s 1), slV (s 2), slV (s 3), slV (s 4)] 42)).alloc (.cells #[slV (r 0), slV (r 1), slV (r 2), slV (r 3), slV (r 4)] 42)).drew = W1 := ⟨_, rfl⟩
             rw [eW]
             rw [eW] at KX KY QW
             have KX := hide KX
             have KY := hide KY
             have QW := hide QW
             rename_i hHeld
             clear hHeld eW)
          | (have KY : ((wr.alloc (.cells #[slV (r 0), slV (r 1), slV (r 2), slV (r 3), slV (r 4)] 42)).alloc (.cells #[slV (s 0), slV (s 1), slV (s 2), slV (s 3), slV (s 4)] 42)).drew.heap[wr.heap.size]? = some (.cells #[slV (r 0), slV (r 1), slV (r 2), slV (r 3), slV (r 4)] 42 (0, 0)) := blk_alloc (blk_new wr _)
             have KX : ((wr.alloc (.cells #[slV (r 0), slV (r 1), slV (r 2), slV (r 3), slV (r 4)] 42)).alloc (.cells #[slV (s 0), slV (s 1), slV (s 2), slV (s 3), slV (s 4)] 42)).drew.heap[wr.heap.size + 1]? = some (.cells #[slV (s 0), slV (s 1), slV (s 2), slV (s 3), slV (s 4)] 42 (0, 0)) := blk_new2 wr _ _
             have QW : Q0 wr ((wr.alloc (.cells #[slV (r 0), slV (r 1), slV (r 2), slV (r 3), slV (r 4)] 42)).alloc (.cells #[slV (s 0), slV (s 1), slV (s 2), slV (s 3), slV (s 4)] 42)).drew := (((Fr.refl _ wr).alloc _).alloc _).drew
             obtain ⟨W1, eW⟩ : ∃ W1, ((wr.alloc (.cells #[slV (r 0), slV (r 1), slV (r 2), slV (r 3), slV (r 4)] 42)).alloc (.cells #[slV (s 0), slV (s 1), slV (s 2), slV (s 3), slV (s 4)] 42)).drew = W1 := ⟨_, rfl⟩
             rw [eW]
             rw [eW] at KX KY QW
             have KX := hide KX
             have KY := hide KY
             have QW := hide QW
             rename_i hHeld
             clear hHeld eW)
        all_goals
          have G1 := hide ((unhide HP1).fr (unhide QW) q0_no)
          have G2 := hide ((unhide HP2).fr (unhide QW) q0_no)
          have x0 := cell_at (unhide KX) 0
          have x1 := cell_at (unhide KX) 1
          have x2 := cell_at (unhide KX) 2
          have x3 := cell_at (unhide KX) 3
          have x4 := cell_at (unhide KX) 4
          have y0 := cell_at (unhide KY) 0
          have y1 := cell_at (unhide KY) 1
          have y2 := cell_at (unhide KY) 2
          have y3 := cell_at (unhide KY) 3
          have y4 := cell_at (unhide KY) 4
          simp at x0 x1 x2 x3 x4 y0 y1 y2 y3 y4
          have hc1 := (unhide HP1).cs.small
          have hc2 := (unhide HP2).cs.small
          by_cases t0 : x.ps = y.ps
          case neg =>
            have D0 := hide (decide_eq_false t0)
            have HE := hide (unhide HNE (fun e => t0 (by rw [e])))
            clear t0
            go_wp2_with fail
            refine (eqt_val (unhide D0) (unhide G1).ps (unhide G2).ps _ _).mono ?_
            rintro e w' ⟨rfl, k0, rfl⟩
            go_wp2
            go_ret
            exact ⟨mret_bool (unhide HE).symm, (q1.then hF).then ((unhide QW).drewN _)⟩
          by_cases t1 : x.rs = y.rs
          case neg =>
            have D0 := hide (decide_eq_true t0)
            have D1 := hide (decide_eq_false t1)
            have HE := hide (unhide HNE (fun e => t1 (by rw [e])))
            clear t0 t1
            go_wp2_with fail
            refine (eqt_val (unhide D0) (unhide G1).ps (unhide G2).ps _ _).mono ?_
            rintro e w' ⟨rfl, k0, rfl⟩
            go_wp2_with fail
            refine (eqt_val (unhide D1) ((unhide G1).fr ((Fr.refl (fun _ => False) _).drewN _) q0_no).rs ((unhide G2).fr ((Fr.refl (fun _ => False) _).drewN _) q0_no).rs _ _).mono ?_
            rintro e w' ⟨rfl, k1, rfl⟩
            go_wp2
            go_ret
            exact ⟨mret_bool (unhide HE).symm, (q1.then hF).then ((unhide QW).drewN _)⟩
          by_cases t2 : x.ms = y.ms
          case neg =>
            have D0 := hide (decide_eq_true t0)
            have D1 := hide (decide_eq_true t1)
            have D2 := hide (decide_eq_false t2)
            have HE := hide (unhide HNE (fun e => t2 (by rw [e])))
            clear t0 t1 t2
            go_wp2_with fail
            refine (eqt_val (unhide D0) (unhide G1).ps (unhide G2).ps _ _).mono ?_
            rintro e w' ⟨rfl, k0, rfl⟩
            go_wp2_with fail
            refine (eqt_val (unhide D1) ((unhide G1).fr ((Fr.refl (fun _ => False) _).drewN _) q0_no).rs ((unhide G2).fr ((Fr.refl (fun _ => False) _).drewN _) q0_no).rs _ _).mono ?_
            rintro e w' ⟨rfl, k1, rfl⟩
            go_wp2_with fail
            refine (eqt_val (unhide D2) ((unhide G1).fr ((Fr.refl (fun _ => False) _).drewN _) q0_no).ms ((unhide G2).fr ((Fr.refl (fun _ => False) _).drewN _) q0_no).ms _ _).mono ?_
            rintro e w' ⟨rfl, k2, rfl⟩
            go_wp2
            go_ret
            exact ⟨mret_bool (unhide HE).symm, (q1.then hF).then ((unhide QW).drewN _)⟩
          have D0 := hide (decide_eq_true t0)
          have D1 := hide (decide_eq_true t1)
          have D2 := hide (decide_eq_true t2)
          by_cases t3 : (s 3).2.1 = (r 3).2.1
          case neg =>
            have HE := hide (unhide HNE (fun e => t3 (by rw [← (unhide HP1).cs.len, ← (unhide HP2).cs.len, e])))
            have hb9 : (((s 3).2.1 : Int) != ((r 3).2.1 : Int)) = true := by rw [bne_iff_ne]; omega
            clear t0 t1 t2 t3
            go_wp2_with fail
            refine (eqt_val (unhide D0) (unhide G1).ps (unhide G2).ps _ _).mono ?_
            rintro e w' ⟨rfl, k0, rfl⟩
            go_wp2_with fail
            refine (eqt_val (unhide D1) ((unhide G1).fr ((Fr.refl (fun _ => False) _).drewN _) q0_no).rs ((unhide G2).fr ((Fr.refl (fun _ => False) _).drewN _) q0_no).rs _ _).mono ?_
            rintro e w' ⟨rfl, k1, rfl⟩
            go_wp2_with fail
            refine (eqt_val (unhide D2) ((unhide G1).fr ((Fr.refl (fun _ => False) _).drewN _) q0_no).ms ((unhide G2).fr ((Fr.refl (fun _ => False) _).drewN _) q0_no).ms _ _).mono ?_
            rintro e w' ⟨rfl, k2, rfl⟩
            go_wp2
            go_ret
            exact ⟨mret_bool (unhide HE).symm, (q1.then hF).then ((unhide QW).drewN _)⟩
          have hb9 : (((s 3).2.1 : Int) != ((r 3).2.1 : Int)) = false := by rw [t3]; simp
          by_cases t4 : x.ts = y.ts
          case neg =>
            have D4 := hide (decide_eq_false t4)
            have HE := hide (unhide HNE (fun e => t4 (by rw [e])))
            have T3 := hide t3
            clear t0 t1 t2 t3 t4
            go_wp2_with fail
            refine (eqt_val (unhide D0) (unhide G1).ps (unhide G2).ps _ _).mono ?_
            rintro e w' ⟨rfl, k0, rfl⟩
            go_wp2_with fail
            refine (eqt_val (unhide D1) ((unhide G1).fr ((Fr.refl (fun _ => False) _).drewN _) q0_no).rs ((unhide G2).fr ((Fr.refl (fun _ => False) _).drewN _) q0_no).rs _ _).mono ?_
            rintro e w' ⟨rfl, k1, rfl⟩
            go_wp2_with fail
            refine (eqt_val (unhide D2) ((unhide G1).fr ((Fr.refl (fun _ => False) _).drewN _) q0_no).ms ((unhide G2).fr ((Fr.refl (fun _ => False) _).drewN _) q0_no).ms _ _).mono ?_
            rintro e w' ⟨rfl, k2, rfl⟩
            go_wp2_with fail
            refine (xst_val (unhide D4) ((unhide G1).fr ((Fr.refl (fun _ => False) _).drewN _) q0_no).ts ((unhide G2).fr ((Fr.refl (fun _ => False) _).drewN _) q0_no).ts _ _).mono ?_
            rintro e w' ⟨rfl, k4, rfl⟩
            go_wp2
            go_ret
            exact ⟨mret_bool (unhide HE).symm, (q1.then hF).then ((unhide QW).drewN _)⟩
          have D4 := hide (decide_eq_true t4)
          have HT := hide (show x.cs = y.cs → x = y from fun e => (Ac.eq_iff x y).2 ⟨t0, t1, t2, e, t4⟩)
          have T3 := hide t3
          clear t0 t1 t2 t3 t4
          go_wp2_with fail
          refine (eqt_val (unhide D0) (unhide G1).ps (unhide G2).ps _ _).mono ?_
          rintro e w' ⟨rfl, k0, rfl⟩
          go_wp2_with fail
          refine (eqt_val (unhide D1) ((unhide G1).fr ((Fr.refl (fun _ => False) _).drewN _) q0_no).rs ((unhide G2).fr ((Fr.refl (fun _ => False) _).drewN _) q0_no).rs _ _).mono ?_
          rintro e w' ⟨rfl, k1, rfl⟩
          go_wp2_with fail
          refine (eqt_val (unhide D2) ((unhide G1).fr ((Fr.refl (fun _ => False) _).drewN _) q0_no).ms ((unhide G2).fr ((Fr.refl (fun _ => False) _).drewN _) q0_no).ms _ _).mono ?_
          rintro e w' ⟨rfl, k2, rfl⟩
          go_wp2_with fail
          refine (xst_val (unhide D4) ((unhide G1).fr ((Fr.refl (fun _ => False) _).drewN _) q0_no).ts ((unhide G2).fr ((Fr.refl (fun _ => False) _).drewN _) q0_no).ts _ _).mono ?_
          rintro e w' ⟨rfl, k4, rfl⟩
          go_wp2
          go_loopw [8] (fun i w' => ∃ j q : Nat, j ≤ (s 3).2.1 ∧ i = .int .i64 j ∧ x.cs.take j = y.cs.take j ∧ w' = W1.drewN q) (fun i w' => (s 3).2.1 - (intOf i).toNat)
          case atStart => exact ⟨0, _, Nat.zero_le _, rfl, rfl, rfl⟩
          case round =>
            obtain ⟨j, q, hj, rfl, hall2, rfl⟩ := hrel
            have Hall2 := hide hall2
            clear hall2
            by_cases hlt2 : j < (s 3).2.1
            · obtain ⟨b3, o3, p1, z1, ea, _, _, hy1, _, _, f1, f2⟩ := PrA.get (unhide G1).cs hlt2
              obtain ⟨b4, o4, p2, z2, eb, _, _, hy2, _, _, h1, h2⟩ := PrA.get (unhide G2).cs (by rw [← unhide T3]; exact hlt2)
              have hlt3 : (j : Int) < ((s 3).2.1 : Int) := by omega
              have hlt4 : (j : Int) < ((r 3).2.1 : Int) := by have := unhide T3; omega
              have HS2 := hide (take_step (unhide Hall2) hy1 hy2)
              have HY1 := hide hy1
              have HY2 := hide hy2
              unfold slV at x3 y3
              rw [ea] at x3
              rw [eb] at y3
              clear hy1 hy2 ea eb
              by_cases hp : p1 = p2
              · by_cases hq : z1 = z2
                · subst hp; subst hq
                  have hb4 : (p1 == p1) = true := by simp
                  have hb5 : (z1 == z1) = true := by simp
                  go_wp2
                  go_quiet (fail)
                  go_wp2
                  go_roundw
                  case rel => exact ⟨j + 1, _, by omega, by go_num, unhide HS2 (by first | trivial | rfl), rfl⟩
                  case measure => simp [intOf]; omega
                · subst hp
                  have HE := hide (unhide HNE (fun e => by rw [e] at HY1; have := (unhide HY1).symm.trans (unhide HY2); simp at this; exact hq this))
                  have hb4 : (p1 == p1) = true := by simp
                  have hb5 : (z1 == z2) = false := by simp [hq]
                  clear hq
                  go_wp2
                  go_quiet (fail)
                  go_wp2
                  go_ret
                  exact ⟨mret_bool (unhide HE).symm, ((q1.then hF).then ((unhide QW).drewN _)).drewN _⟩
              · have HE := hide (unhide HNE (fun e => by rw [e] at HY1; have := (unhide HY1).symm.trans (unhide HY2); simp at this; exact hp this.1))
                have hb4 : (p1 == p2) = false := by simp [hp]
                clear hp
                go_wp2
                go_quiet (fail)
                go_wp2
                go_ret
                exact ⟨mret_bool (unhide HE).symm, ((q1.then hF).then ((unhide QW).drewN _)).drewN _⟩
            · have HA := hide (show x.cs = y.cs by
                have e := unhide Hall2
                rwa [List.take_of_length_le (by rw [(unhide HP1).cs.len]; omega), List.take_of_length_le (by rw [(unhide HP2).cs.len, ← unhide T3]; omega)] at e)
              go_wp2
              go_roundw
              case rel => exact ⟨k + 1, by omega, by go_num, unhide HS (unhide HT (unhide HA)), hF.then ((unhide QW).drewN _)⟩
              case measure => simp [intOf]; omega
      · have HA := hide (show decide (l = l') = true from decide_eq_true (by
          have e := unhide Hall
          rwa [List.take_of_length_le (by rw [unhide HL]; omega), List.take_of_length_le (by rw [unhide HL']; omega)] at e))
        go_wp2
        go_ret
        exact ⟨mret_bool (unhide HA).symm, q1.then hF⟩
  · have hb : ((n : Int) != (n' : Int)) = true := by rw [bne_iff_ne]; omega
    have HA := hide (show decide (l = l') = false from decide_eq_false (fun e => hnm (by rw [← hl, ← hl', e])))
    clear hnm hl hl'
    go_enter Try.func25, Try.ntmps25
    go_wp2
    go_ret
    exact ⟨mret_bool (unhide HA).symm, q1⟩

end Go.Proofs.Ytkcljnfalimlgaa
