/-
  DequePlays: both deques answer alike.
-/
import Derived.Test.YtingpopcdihclaaDrBoth
import Derived.LoopTactic
import Derived.BigQuiet
namespace Go.Proofs.Ytingpopcdihclaa
open Go.RowKit
set_option linter.unusedVariables false
set_option maxRecDepth 8192

/-- what was there when the law was called stands, but for the document's blocks, that are newer -/
theorem Fr.deqm {w0 w w' : World} {b g h : Nat} (f : Fr (fun _ => False) w0 w) (k : FrM b g h w w') (hb : w0.heap.size ≤ b) (hg : w0.heap.size ≤ g) (hh : w0.heap.size ≤ h) : Fr (fun _ => False) w0 w' :=
  f.trans k (fun _ _ h => h) (fun i hi e => by omega)

theorem quiet_plus {P : Program} {f : FuncId} {args : Array Value} {w : World} {q n : Nat} {v : Value} (h : Calls P f args (w.drewN (q + n)) fun e w' => e = .returned v ∧ w.drewN (q + n) = w') :
    Calls P f args (w.drewN (q + n)) fun e w' => e = .returned v ∧ ∃ m, w' = w.drewN (q + m) :=
  h.mono fun e w' ⟨h1, h2⟩ => ⟨h1, n, h2.symm⟩

theorem plus_lt {P : Nat → Prop} {w w' : World} {o : Obj} (h : Fr P (w.alloc o) w') : w.heap.size < w'.heap.size := by
  have := h.size
  rw [World.size_alloc] at this
  omega

theorem box_fr {P : Nat → Prop} {w w' : World} {a b c d : Value} {T : TypeId} (h : Fr P (w.alloc (.cells #[a, b, c, d] T)) w') (hP : ¬ P w.heap.size) :
    w'.cell? ⟨w.heap.size, 0, none⟩ = some a ∧ w'.cell? ⟨w.heap.size, 1, none⟩ = some b ∧ w'.cell? ⟨w.heap.size, 2, none⟩ = some c ∧ w'.cell? ⟨w.heap.size, 3, none⟩ = some d :=
  ⟨cell_fr h hP ((cell_at (blk_new w _) 0).trans rfl), cell_fr h hP ((cell_at (blk_new w _) 1).trans rfl), cell_fr h hP ((cell_at (blk_new w _) 2).trans rfl), cell_fr h hP ((cell_at (blk_new w _) 3).trans rfl)⟩

theorem busy_both (b g S : Nat) (d : Dq) (n : Int) : ∃ bz : Bool, ((n < 0 ∧ bz = false) ∨ (0 ≤ n ∧ 8 ≤ n ∧ bz = false) ∨ (0 ≤ n ∧ n < 8 ∧ ∃ k : Nat, k < 8 ∧ n = (k : Int) ∧ bz = decide (0 < (d.th k).pc))) ∧
    Hid (∀ w, IsD w b g S d → Calls Try.prog 19 #[.pointer (some ⟨b, 0, none⟩), .int .i64 n] w fun e w' => e = .returned (.bool bz) ∧ w = w') := by
  by_cases hn : 0 ≤ n ∧ n < 8
  · obtain ⟨k, rfl⟩ : ∃ k : Nat, n = (k : Int) := ⟨n.toNat, by omega⟩
    have hk : k < 8 := by omega
    refine ⟨decide (0 < (d.th k).pc), .inr (.inr ⟨hn.1, hn.2, k, hk, rfl, rfl⟩), hide fun w h => ?_⟩
    rcases Nat.eq_zero_or_pos (d.th k).pc with hb | hb
    · rw [hb]; exact busy_no h hk hb
    · rw [decide_eq_true hb]; exact busy_yes h hk hb
  · refine ⟨false, ?_, hide fun w h => busy_out h hn⟩
    by_cases h : n < 0
    · exact .inl ⟨h, rfl⟩
    · exact .inr (.inl ⟨by omega, by omega, rfl⟩)

set_option maxHeartbeats 8000000 in
theorem plays_calls {w : World} (size : Int) {a1 : Option Addr} {n1 k1 : Nat} {rows : List Mv} (A1 : MvA w.heap.size w a1 n1 rows) (hn1 : n1 * 32 ≤ 140737488351232) :
    Calls Try.prog 3 #[.int .i64 size, .slice a1 n1 k1] w fun e w' => e = .returned (.bool true) ∧ Fr (fun _ => False) w w' := by
  have hS1 := clamp_pos size
  have hS2 := clamp_most size
  obtain ⟨S, hS⟩ : ∃ S, clamp size = S := ⟨_, rfl⟩
  have HD := hide (fun w => dnew size w)
  have HM := hide (fun w => mnew size w)
  rw [hS] at hS1 hS2
  simp only [hS] at HD HM
  clear hS
  have hSz : ((S : Int) != (S : Int)) = false := by simp
  go_enter Try.func3, Try.ntmps3
  go_wp2_with (first
    | (go_at_call 9; refine (lives_calls _).mono ?_; rintro e w1 ⟨rfl, hF0⟩)
    | (go_at_call 10; refine (unhide HD _).mono ?_; rintro e w2 ⟨rfl, hD, hF1⟩)
    | (go_at_call 11; refine (unhide HM _).mono ?_; rintro e w3 ⟨b2, g2, h2, rfl, hb2, hg2, hh2, hM, hF2⟩; have hD1 := hD.fr hF2 (fun h => h) (fun h => h); have c2 := hM.c2))
  obtain ⟨G, hG⟩ : ∃ G, w1.heap.size = G := ⟨_, rfl⟩
  rw [hG] at hD1
  simp only [hG]
  have hGw : w.heap.size ≤ G := by rw [← hG]; exact hF0.size
  have hsz := (hF0.trans hF1 (T := fun _ => False) (fun _ _ h => h) (fun _ _ h => h)).size
  have hb2' : w.heap.size ≤ b2 := by omega
  have hg2' : w.heap.size ≤ g2 := by omega
  have hh2' : w.heap.size ≤ h2 := by omega
  have hFr := (hF0.trans hF1 (T := fun _ => False) (fun _ _ h => h) (fun _ _ h => h)).trans hF2 (T := fun _ => False) (fun _ _ h => h) (fun _ _ h => h)
  have hap : G + 1 < b2 ∧ G + 1 < g2 ∧ G + 1 < h2 := by
    have := hD.lt
    omega
  obtain ⟨ha1, ha2, ha3⟩ := hap
  go_quiet ((go_at_call 12; exact quiet_same (dsize (hD1.drewN _))))
  go_wp2
  clear hG hD hF0 hF1 hF2 hb2 hg2 hh2 hsz c2
  go_loopw [7] (fun i wr => ∃ (j : Nat) (d : Dq) (q : Mq) (L K : List Int), j ≤ n1 ∧ i = .int .i64 j ∧ IsD wr (G + 1) G S d ∧ IsM wr b2 g2 h2 S q ∧ Rel d q ∧ Inv S d L K ∧ d.top ≤ j ∧ Fr (fun _ => False) w wr) (fun i _ => n1 - (intOf i).toNat)
  case atStart => exact ⟨0, Dq.new, Mq.new, [], [], by omega, rfl, hD1.drewN _, hM.drewN _, rel_new, inv_new hS1, by simp [Dq.new], hFr.drewN _⟩
  case round =>
    clear hD1 hFr hM
    obtain ⟨j, d, q, L, K, hj, rfl, hD, hM, R, I, htop, hF⟩ := hrel
    by_cases hlt : j < n1
    · obtain ⟨ba, off, ⟨bg, n, op, v⟩, vs, rfl, hba, hx, hc, ⟨rfl, _, _, _⟩, _⟩ := (A1.fr hF (fun _ h => h.elim)).at hlt
      have c0 : wr.cell? ⟨ba, off + j * 4, none⟩ = some (.bool bg) := by simpa using hc 0 _ rfl
      have c1 : wr.cell? ⟨ba, off + j * 4 + 1, none⟩ = some (.int .i64 n) := by simpa using hc 1 _ rfl
      have c2 : wr.cell? ⟨ba, off + j * 4 + 2, none⟩ = some (.int .i64 op) := by simpa using hc 2 _ rfl
      have c3 : wr.cell? ⟨ba, off + j * 4 + 3, none⟩ = some (.int .i64 v) := by simpa using hc 3 _ rfl
      have hlt' : (j : Int) < (n1 : Int) := by omega
      clear hx hc
      have HX1 := hide (show (wr.alloc (.cells #[.bool bg, .int .i64 n, .int .i64 op, .int .i64 v] 34)).cell? ⟨wr.heap.size, 1, none⟩ = some (.int .i64 n) from (cell_at (blk_new wr _) 1).trans rfl)
      have hlD := hD.lt
      have hlb := hM.ltb
      have hlg := hM.ltg
      have hlh := hM.lth
      have hnx : ¬ (wr.heap.size = G + 1 ∨ wr.heap.size = G) := by omega
      have hny : ¬ (wr.heap.size = b2 ∨ wr.heap.size = g2 ∨ wr.heap.size = h2) := by omega
      cases bg
      · obtain ⟨d', ⟨yo, yp, yv, ye⟩, er, L', K', hA, hB, I', ht'⟩ := step_both (G + 1) G b2 g2 h2 R I hS2 (by omega) n
        have HA := hide hA
        have HB := hide hB
        obtain ⟨bz, HC, HZ⟩ := busy_both (G + 1) G S d' n
        clear hA hB
        go_wp2_with (first
          | (go_at_call 15; refine (unhide HA _ (hD.al _)).mono ?_; rintro e w4 ⟨rfl, hD4, hF4⟩; unfold dnV; dsimp only; have x1 := cell_fr hF4 hnx (unhide HX1); have hM4 := (hM.al (.cells #[.bool false, .int .i64 n, .int .i64 op, .int .i64 v] 34)).fr hF4 (by omega) (by omega) (by omega); have hl4 := plus_lt hF4; have k4b := hM4.ltb; have k4g := hM4.ltg; have k4h := hM4.lth)
          | (go_at_call 16; go_loud (refine (unhide HB _ (hM4.al _)).mono ?_; rintro e w5 ⟨q', rfl, hM5, R', hF5⟩; unfold dnV; dsimp only; have hD5 := (hD4.al (.cells #[.bool yo, .int .i64 yp, .int .i64 yv, .int .i64 ye] 38)).fr hF5 (by omega) (by omega); have hl5 := plus_lt hF5; have hl6 : wr.heap.size < w5.heap.size := (by omega); have y1 := cell_fr hF5 hny (cell_fr ((Fr.refl (fun _ => False) w4).alloc (.cells #[.bool yo, .int .i64 yp, .int .i64 yv, .int .i64 ye] 38)) (fun h => h) x1); have hnz : ¬ (w4.heap.size = b2 ∨ w4.heap.size = g2 ∨ w4.heap.size = h2) := (by omega); obtain ⟨e0, e1, e2, e3⟩ := box_fr hF5 hnz)))
        obtain ⟨rt, rb, rp, _⟩ := id R'
        have m0 := hM5.c0
        have m1 := hM5.c1
        have m3 := hM5.c3
        rw [rt] at m0
        rw [rb] at m1
        have hl7 := hM5.lth
        have hl8 := hM5.ltb
        have hl9 := hM5.ltg
        have hltd := hD5.lt
        rcases HC with ⟨hn, rfl⟩ | ⟨hn, hn', rfl⟩ | ⟨hn, hn', k, hk, rfl, hbz⟩
        · have hd1 : decide (0 ≤ n) = false := decide_eq_false (by omega)
          (go_quiet (fail); go_wp2; go_quiet (first | (go_at_call 17; exact quiet_plus (dtop ((hD5.al _).drewN _))) | (go_at_call 18; exact quiet_plus (dbot ((hD5.al _).drewN _))) | (go_at_call 19; exact quiet_plus (unhide HZ _ ((hD5.al _).drewN _)))); go_wp2)
          go_roundw
          case rel => exact ⟨j + 1, d', q', L', K', by omega, by go_num, (hD5.al _).same rfl, (hM5.al _).same rfl, R', I', by omega, (((((hF.alloc _).deq hF4 (by omega) hGw).alloc _).deqm hF5 hb2' hg2' hh2').alloc _).drewN _⟩
          case measure => simp [intOf]; omega
        · have hd1 : decide (0 ≤ n) = true := decide_eq_true hn
          have hd2 : decide (n < 8) = false := decide_eq_false (by omega)
          (go_quiet (fail); go_wp2; go_quiet (first | (go_at_call 17; exact quiet_plus (dtop ((hD5.al _).drewN _))) | (go_at_call 18; exact quiet_plus (dbot ((hD5.al _).drewN _))) | (go_at_call 19; exact quiet_plus (unhide HZ _ ((hD5.al _).drewN _)))); go_wp2)
          go_roundw
          case rel => exact ⟨j + 1, d', q', L', K', by omega, by go_num, (hD5.al _).same rfl, (hM5.al _).same rfl, R', I', by omega, (((((hF.alloc _).deq hF4 (by omega) hGw).alloc _).deqm hF5 hb2' hg2' hh2').alloc _).drewN _⟩
          case measure => simp [intOf]; omega
        · obtain ⟨t0, _⟩ := hM5.ct hk rfl
          rw [R'.on hk, ← hbz] at t0
          have hd1 : decide (0 ≤ (k : Int)) = true := decide_eq_true hn
          have hd2 : decide ((k : Int) < 8) = true := decide_eq_true hn'
          (go_quiet (fail); go_wp2; go_quiet (first | (go_at_call 17; exact quiet_plus (dtop ((hD5.al _).drewN _))) | (go_at_call 18; exact quiet_plus (dbot ((hD5.al _).drewN _))) | (go_at_call 19; exact quiet_plus (unhide HZ _ ((hD5.al _).drewN _)))); go_wp2)
          go_roundw
          case rel => exact ⟨j + 1, d', q', L', K', by omega, by go_num, (hD5.al _).same rfl, (hM5.al _).same rfl, R', I', by omega, (((((hF.alloc _).deq hF4 (by omega) hGw).alloc _).deqm hF5 hb2' hg2' hh2').alloc _).drewN _⟩
          case measure => simp [intOf]; omega
      · obtain ⟨d', er, hA, hB, I', ht'⟩ := begin_both (G + 1) G b2 g2 h2 R I n op v
        have HA := hide hA
        have HB := hide hB
        obtain ⟨bz, HC, HZ⟩ := busy_both (G + 1) G S d' n
        have HX2 := hide (show (wr.alloc (.cells #[.bool true, .int .i64 n, .int .i64 op, .int .i64 v] 34)).cell? ⟨wr.heap.size, 2, none⟩ = some (.int .i64 op) from (cell_at (blk_new wr _) 2).trans rfl)
        have HX3 := hide (show (wr.alloc (.cells #[.bool true, .int .i64 n, .int .i64 op, .int .i64 v] 34)).cell? ⟨wr.heap.size, 3, none⟩ = some (.int .i64 v) from (cell_at (blk_new wr _) 3).trans rfl)
        clear hA hB
        go_wp2_with fail
        have hO := blk_new wr (.cells #[.bool true, .int .i64 n, .int .i64 op, .int .i64 v] 34)
        have hDq := hD.al (.cells #[.bool true, .int .i64 n, .int .i64 op, .int .i64 v] 34)
        have hMq := hM.al (.cells #[.bool true, .int .i64 n, .int .i64 op, .int .i64 v] 34)
        have hFq := hF.alloc (.cells #[.bool true, .int .i64 n, .int .i64 op, .int .i64 v] 34)
        clear HX1 HX2 HX3 hD hM hF c0 c1 c2 c3
        generalize wr.alloc (.cells #[.bool true, .int .i64 n, .int .i64 op, .int .i64 v] 34) = wq at *
        generalize wr.heap.size = bx at *
        have o1 := cell_at hO 1
        have o2 := cell_at hO 2
        have o3 := cell_at hO 3
        simp at o1 o2 o3
        go_region_held3 (fun w' => w'.cell? ⟨bx, 1, none⟩ = some (.int .i64 n) ∧ w'.cell? ⟨bx, 2, none⟩ = some (.int .i64 op) ∧ w'.cell? ⟨bx, 3, none⟩ = some (.int .i64 v)) ((first | go_keep | (refine ⟨?_, ?_, ?_⟩ <;> assumption)))
          ((first
            | (go_at_call 13; refine (unhide HA _ (by first | exact hDq | exact hDq.same rfl)).mono ?_; rintro e w4 ⟨rfl, hD4, hF4⟩; have hO4 := hF4.blk (show _ = _ from hO) hnx; have hM4 := IsM.fr (hMq.same (w' := wq.drew) rfl) hF4 (by omega) (by omega) (by omega); have p1 := cell_at hO4 1; have p2 := cell_at hO4 2; have p3 := cell_at hO4 3; simp at p1 p2 p3)
            | (go_at_call 14; refine (unhide HB _ (by exact hM4)).mono ?_; rintro e w5 ⟨q', rfl, hM5, R', hF5⟩; have hD5 := hD4.fr hF5 (by omega) (by omega); have hO5 := hF5.blk (show _ = _ from hO4) hny; have p4 := cell_at hO5 1; have p5 := cell_at hO5 2; have p6 := cell_at hO5 3; simp at p4 p5 p6)))
        all_goals
          have hFn := ((hFq.drew).deq hF4 (by omega) hGw).deqm hF5 hb2' hg2' hh2'
          clear hFq hF4 hF5 hD4 hM4 hDq hMq o1 o2 o3 p1 p2 p3 hO hO4
          go_wp2_with fail
          obtain ⟨rt, rb, rp, _⟩ := id R'
          have m0 := hM5.c0
          have m1 := hM5.c1
          have m3 := hM5.c3
          rw [rt] at m0
          rw [rb] at m1
          have hl7 := hM5.lth
          have hl8 := hM5.ltb
          have hl9 := hM5.ltg
          have hltd := hD5.lt
          rcases HC with ⟨hn, rfl⟩ | ⟨hn, hn', rfl⟩ | ⟨hn, hn', k, hk, rfl, hbz⟩
          · have hd1 : decide (0 ≤ n) = false := decide_eq_false (by omega)
            go_quiet (fail)
            go_wp2
            go_quiet (first | (go_at_call 17; exact quiet_plus (dtop (hD5.drewN _))) | (go_at_call 18; exact quiet_plus (dbot (hD5.drewN _))) | (go_at_call 19; exact quiet_plus (unhide HZ _ (hD5.drewN _))))
            go_wp2
            go_roundw
            case rel => exact ⟨j + 1, d', q', L, K, by omega, by go_num, hD5.same rfl, hM5.same rfl, R', I', by omega, hFn.drewN _⟩
            case measure => simp [intOf]; omega
          · have hd1 : decide (0 ≤ n) = true := decide_eq_true hn
            have hd2 : decide (n < 8) = false := decide_eq_false (by omega)
            go_quiet (fail)
            go_wp2
            go_quiet (first | (go_at_call 17; exact quiet_plus (dtop (hD5.drewN _))) | (go_at_call 18; exact quiet_plus (dbot (hD5.drewN _))) | (go_at_call 19; exact quiet_plus (unhide HZ _ (hD5.drewN _))))
            go_wp2
            go_roundw
            case rel => exact ⟨j + 1, d', q', L, K, by omega, by go_num, hD5.same rfl, hM5.same rfl, R', I', by omega, hFn.drewN _⟩
            case measure => simp [intOf]; omega
          · obtain ⟨t0, _⟩ := hM5.ct hk rfl
            rw [R'.on hk, ← hbz] at t0
            have hd1 : decide (0 ≤ (k : Int)) = true := decide_eq_true hn
            have hd2 : decide ((k : Int) < 8) = true := decide_eq_true hn'
            go_quiet (fail)
            go_wp2
            go_quiet (first | (go_at_call 17; exact quiet_plus (dtop (hD5.drewN _))) | (go_at_call 18; exact quiet_plus (dbot (hD5.drewN _))) | (go_at_call 19; exact quiet_plus (unhide HZ _ (hD5.drewN _))))
            go_wp2
            go_roundw
            case rel => exact ⟨j + 1, d', q', L, K, by omega, by go_num, hD5.same rfl, hM5.same rfl, R', I', by omega, hFn.drewN _⟩
            case measure => simp [intOf]; omega
    · obtain rfl : j = n1 := by omega
      have h0 := I.t0
      have hl := I.len
      have hb1 := I.own.bot_le.1
      have hi := items_same (S := S) R
      have hqt := R.top
      have hqb := R.bot
      have HI := hide (fun (w1 : World) (h1 : IsD w1 (G + 1) G S d) => items_calls h1 h0 (by omega) (by omega))
      have HJ := hide (fun (w1 : World) (h1 : IsM w1 b2 g2 h2 S q) => mitems_calls h1 (by omega) (by omega) (by omega))
      rw [hi] at HJ
      have hlen : (itemsD S d).length ≤ 9223372036854775806 := by rw [itemsD_len]; omega
      clear hi
      go_wp2_with (first
        | (go_at_call 21; refine (unhide HI _ hD).mono ?_; rintro e w4 ⟨l1, rfl, hL1, hF1⟩; have hM1 := hM.fr hF1 (fun h => h) (fun h => h) (fun h => h))
        | (go_at_call 22; refine (unhide HJ _ hM1).mono ?_; rintro e w5 ⟨l2, rfl, hL2, hF2⟩)
        | (go_at_call 20; refine (same_true (hL1.sl.fr hF2) hL2.sl hlen).mono ?_; rintro e w6 ⟨rfl, hF3⟩))
      go_ret
      exact ⟨rfl, ((hF.trans hF1 (fun _ _ h => h) (fun _ _ h => h)).trans hF2 (fun _ _ h => h) (fun _ _ h => h)).trans hF3 (fun _ _ h => h) (fun _ _ h => h)⟩

end Go.Proofs.Ytingpopcdihclaa
