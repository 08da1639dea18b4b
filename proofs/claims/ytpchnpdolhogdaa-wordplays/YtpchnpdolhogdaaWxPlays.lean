/-
  WordPlays: both words answer alike.
-/
import Derived.Test.YtpchnpdolhogdaaWxCalls
import Derived.Test.YtpchnpdolhogdaaWdOnce
import Derived.LoopTactic
import Derived.BigQuiet
namespace Go.Proofs.Ytpchnpdolhogdaa
open Go.RowKit
set_option linter.unusedVariables false
set_option maxRecDepth 8192

theorem quiet_plus {P : Program} {f : FuncId} {args : Array Value} {w : World} {q n : Nat} {v : Value} (h : Calls P f args (w.drewN (q + n)) fun e w' => e = .returned v ∧ w.drewN (q + n) = w') :
    Calls P f args (w.drewN (q + n)) fun e w' => e = .returned v ∧ ∃ m, w' = w.drewN (q + m) :=
  h.mono fun e w' ⟨h1, h2⟩ => ⟨h1, n, h2.symm⟩

theorem quiet_same {P : Program} {f : FuncId} {args : Array Value} {w : World} {n : Nat} {v : Value}
    (h : Calls P f args (w.drewN n) fun e w' => e = .returned v ∧ w.drewN n = w') : Calls P f args (w.drewN n) fun e w'' => e = .returned v ∧ ∃ m, w'' = w.drewN m :=
  h.mono fun _ _ ⟨he, hm⟩ => ⟨he, n, hm.symm⟩

theorem Wo.drewN {w : World} {b : Nat} {d : Wd} (h : Wo w b d) (n : Nat) : Wo (w.drewN n) b d := h.same rfl

/-- no number's block is the document's -/
theorem IsX.nib {w : World} {b h : Nat} {d : Wd} (m : IsX w b h d) {k : Nat} (hk : IB w k) : ¬ (k = b ∨ k = h) := by
  obtain ⟨v, h2⟩ := hk
  unfold Bx at h2
  rintro (rfl | rfl)
  · have := m.blk
    rw [h2] at this
    cases this
  · obtain ⟨cs, g1, _⟩ := m.ths
    rw [h2] at g1
    cases g1
theorem Wo.x {w w' : World} {G b h : Nat} {d d' : Wd} (o : Wo w G d) (m : IsX w b h d') (hf : FrX b h w w') (h1 : G ≠ b) (h2 : G ≠ h) : Wo w' G d :=
  o.fr hf (fun e => e.elim h1 h2) (fun k hk => m.nib hk)
theorem IsX.w {w w' : World} {G b h : Nat} {d : Wd} (m : IsX w b h d) (hf : FrW G w w') (h1 : G ≠ b) (h2 : G ≠ h) : IsX w' b h d :=
  m.fr hf (fun e => h1 e.symm) (fun e => h2 e.symm)

/-- the law's box -/
def MB (w : World) (bx : Nat) (bg : Bool) (n v : Int) : Prop := w.heap[bx]? = some (.cells #[.bool bg, .int .i64 n, .int .i64 v] 29 (0, 0))
theorem MB.w {w w' : World} {G bx : Nat} {d : Wd} {bg : Bool} {n v : Int} (h : MB w bx bg n v) (o : Wo w G d) (hf : FrW G w w') : MB w' bx bg n v :=
  hf.blk h (by
    rintro rfl
    obtain ⟨cs, h1, _⟩ := o.is.blk
    unfold MB at h
    rw [h1] at h
    cases h)
theorem MB.x {w w' : World} {b h bx : Nat} {d : Wd} {bg : Bool} {n v : Int} (H : MB w bx bg n v) (m : IsX w b h d) (hf : FrX b h w w') : MB w' bx bg n v :=
  hf.blk H (by
    unfold MB at H
    rintro (rfl | rfl)
    · have := m.blk
      rw [H] at this
      cases this
    · obtain ⟨cs, g1, _⟩ := m.ths
      rw [H] at g1
      cases g1)
theorem MB.c {w : World} {bx : Nat} {bg : Bool} {n v : Int} (h : MB w bx bg n v) : w.cell? ⟨bx, 0, none⟩ = some (.bool bg) ∧ w.cell? ⟨bx, 1, none⟩ = some (.int .i64 n) ∧ w.cell? ⟨bx, 2, none⟩ = some (.int .i64 v) :=
  ⟨(cell_at h 0).trans rfl, (cell_at h 1).trans rfl, (cell_at h 2).trans rfl⟩

/-- a step of whatever thread's -/
def wsI (d : Wd) (n : Int) : Wd × Int × Int :=
  if 0 ≤ n ∧ n < 8 then (if 0 < d.pc n.toNat then ((wstp d n.toNat).1, (wstp d n.toNat).2, 0) else (d, 0, 13)) else (d, 0, 1)

theorem step_calls {w : World} {G : Nat} {d : Wd} (o : Wo w G d) (n : Int) :
    Calls Try.prog 14 #[.pointer (some ⟨G, 0, none⟩), .int .i64 n] w fun e w' => e = .returned (.tuple #[.int .i64 (wsI d n).2.1, .int .i64 (wsI d n).2.2]) ∧ Wo w' G (wsI d n).1 ∧ FrW G w w' := by
  unfold wsI
  by_cases hn : 0 ≤ n ∧ n < 8
  · rw [if_pos hn]
    obtain ⟨k, rfl⟩ : ∃ k : Nat, n = (k : Int) := ⟨n.toNat, by omega⟩
    rw [Int.toNat_natCast]
    by_cases hp : 0 < d.pc k
    · rw [if_pos hp]; exact ostep o (by omega) hp
    · rw [if_neg hp]; exact (step_idle o.is (k := k) (by omega) (by omega)).mono (fun e w' ⟨h1, h2⟩ => by subst h2; exact ⟨h1, o, Fr.refl _ w⟩)
  · rw [if_neg hn]; exact (step_out o.is hn).mono (fun e w' ⟨h1, h2⟩ => by subst h2; exact ⟨h1, o, Fr.refl _ w⟩)

theorem xstep_calls {w : World} {b h : Nat} {d : Wd} (m : IsX w b h d) (o : Ow d) (n : Int) :
    Calls Try.prog 15 #[.pointer (some ⟨b, 0, none⟩), .int .i64 n] w fun e w' => e = .returned (.tuple #[.int .i64 (wsI d n).2.1, .int .i64 (wsI d n).2.2]) ∧ IsX w' b h (wsI d n).1 ∧ FrX b h w w' := by
  unfold wsI
  by_cases hn : 0 ≤ n ∧ n < 8
  · rw [if_pos hn]
    obtain ⟨k, rfl⟩ : ∃ k : Nat, n = (k : Int) := ⟨n.toNat, by omega⟩
    rw [Int.toNat_natCast]
    by_cases hp : 0 < d.pc k
    · rw [if_pos hp]; exact xstep_busy m o (by omega) hp
    · rw [if_neg hp]; exact xstep_idle m (k := k) (by omega) (by omega)
  · rw [if_neg hn]; exact xstep_out m hn

theorem busy_cases (d : Wd) (n : Int) : (n < 0 ∧ busyB d n = false) ∨ (0 ≤ n ∧ 8 ≤ n ∧ busyB d n = false) ∨ (0 ≤ n ∧ n < 8 ∧ ∃ k : Nat, k < 8 ∧ n = (k : Int) ∧ busyB d n = (tI (d.pc k)).on) := by
  by_cases h0 : 0 ≤ n
  · by_cases h1 : n < 8
    · refine .inr (.inr ⟨h0, h1, n.toNat, by omega, by omega, ?_⟩)
      rw [tI_on]
      simp [busyB, h0, h1]
    · exact .inr (.inl ⟨h0, by omega, by simp [busyB, h1]⟩)
  · exact .inl ⟨by omega, by simp [busyB, h0]⟩

set_option maxHeartbeats 2000000 in
theorem plays_calls {w : World} {a1 : Option Addr} {n1 k1 : Nat} {rows : List Mv} (A1 : MvA w.heap.size w a1 n1 rows) (hn1 : n1 * 24 ≤ 140737488351232) :
    Calls Try.prog 3 #[.slice a1 n1 k1] w fun e w' => e = .returned (.bool true) ∧ Fr (fun _ => False) w w' := by
  go_enter Try.func3, Try.ntmps3
  go_wp2_with (first
    | (go_at_call 9; refine (lives_calls _).mono ?_; rintro e w1 ⟨rfl, hF0⟩)
    | (go_at_call 10; refine (onew2 _).mono ?_; rintro e w2 ⟨G, hG0, rfl, hD, hF⟩)
    | (go_at_call 11; refine (xnew _).mono ?_; rintro e w3 ⟨b, h, rfl, hM, hF2, hb2, hh2⟩))
  have hG : w.heap.size ≤ G := by rw [← hG0.out]; exact hF0.size
  have hltG := hD.is.lt
  have hGb : G ≠ b := by omega
  have hGh : G ≠ h := by omega
  have hFr0 := hF0.trans hF (T := fun _ => False) (fun _ _ h => h) (fun _ _ h => h)
  have hwb : w.heap.size ≤ b := by omega
  have hwh : w.heap.size ≤ h := by omega
  have hFr := hFr0.trans hF2 (T := fun _ => False) (fun _ _ h => h) (fun _ _ h => h)
  replace hD := hD.up hF2
  clear hG0 hF0 hF hF2 hltG hb2 hh2 hFr0
  go_loopw [5] (fun i wr => ∃ (j : Nat) (d : Wd), j ≤ n1 ∧ i = .int .i64 j ∧ Wo wr G d ∧ IsX wr b h d ∧ Fr (fun _ => False) w wr) (fun i _ => n1 - (intOf i).toNat)
  case atStart => exact ⟨0, _, by omega, rfl, hD, hM, hFr⟩
  case round =>
    clear hD hFr hM
    obtain ⟨j, d, hj, rfl, hD, hM, hF⟩ := hrel
    have hFx : ∀ (u v : World), Fr (fun _ => False) w u → FrX b h u v → Fr (fun _ => False) w v := fun _ _ ha hc => ha.trans hc (fun _ _ h => h) (fun i hi e => by omega)
    have HFX := hide hFx
    clear hFx
    by_cases hlt : j < n1
    · obtain ⟨ba, off, ⟨bg, n, v⟩, vs, rfl, hba, hx, hc, ⟨rfl, _, _⟩⟩ := (A1.fr hF (fun _ h => h.elim)).at hlt
      have c0 : wr.cell? ⟨ba, off + j * 3, none⟩ = some (.bool bg) := by simpa using hc 0 _ rfl
      have c1 : wr.cell? ⟨ba, off + j * 3 + 1, none⟩ = some (.int .i64 n) := by simpa using hc 1 _ rfl
      have c2 : wr.cell? ⟨ba, off + j * 3 + 2, none⟩ = some (.int .i64 v) := by simpa using hc 2 _ rfl
      have hlt' : (j : Int) < (n1 : Int) := by omega
      clear hx hc
      have HO : Hid (MB (wr.alloc (.cells #[.bool bg, .int .i64 n, .int .i64 v] 29)) wr.heap.size bg n v) := hide (blk_new wr _)
      cases bg
      · --STEP
        have HA := hide (fun (w1 : World) (h1 : Wo w1 G d) => step_calls h1 n)
        have HB := hide (fun (w1 : World) (h1 : IsX w1 b h d) => xstep_calls h1 hD.ow n)
        generalize wsI d n = y at *
        obtain ⟨d2, x, er⟩ := y
        dsimp only at HA HB
        go_wp2_with (first
          | (go_at_call 14; refine (unhide HA _ (hD.al _)).mono ?_; rintro e w4 ⟨rfl, hD4, hF4⟩; have hO4 := (unhide HO).w (hD.al _) hF4; obtain ⟨_, x1, _⟩ := hO4.c; have hM4 := (hM.al (.cells #[.bool false, .int .i64 n, .int .i64 v] 29)).w hF4 hGb hGh; have HO4 := hide hO4; have hl4 := lt_of_blk hO4; clear hO4)
          | (go_at_call 15; refine (unhide HB _ hM4).mono ?_; rintro e w5 ⟨rfl, hM5, hF5⟩; have hD5 := hD4.x hM4 hF5 hGb hGh; have hO5 := (unhide HO4).x hM4 hF5; obtain ⟨_, y1, _⟩ := hO5.c; have hl5 := lt_of_blk hO5; clear hO5))
        have HFn : Hid (Fr (fun _ => False) w w5) := unhide HFX _ _ ((hF.alloc _).wrd hF4 hG) hF5
        have HN := hide (fun (q : Nat) => now_calls (hD5.drewN q).is)
        have HH := hide (fun (q : Nat) => holds_calls (hD5.drewN q).is)
        have HZ := hide (fun (q : Nat) => busy_calls (hD5.drewN q).is n)
        have m0 := hM5.c0
        have m1 := hM5.c1
        have m2 := hM5.c2
        have hth := fun k (hk : k < 8) => (hM5.ct hk).1
        have hlb := hM5.ltb
        have hlh := hM5.lth
        have hcs := busy_cases d2 n
        have HD5 := hide hD5
        have HM5 := hide hM5
        have KEY := hide (show ∀ q, ∃ (j' : Nat) (d : Wd), j' ≤ n1 ∧ Value.int .i64 ((j : Int) + 1) = .int .i64 j' ∧ Wo (w5.drewN q) G d ∧ IsX (w5.drewN q) b h d ∧ Fr (fun _ => False) w (w5.drewN q) from fun q => ⟨j + 1, d2, by omega, by go_num, hD5.drewN q, hM5.drewN q, (unhide HFn).drewN q⟩)
        clear hD hM hF hD4 hM4 hF4 hD5 hM5 hF5 HA HB HD5 HM5 HFn
        rcases hcs with ⟨hn, hbz⟩ | ⟨hn, hn', hbz⟩ | ⟨hn, hn', k, hk, rfl, hbz⟩
        · have hd1 : decide (0 ≤ n) = false := decide_eq_false (by omega)
          simp only [hbz] at HZ
          clear hbz hth
          generalize d2.now = n2 at *
          generalize d2.held = l2 at *
          have q1 : (n2 != n2) = false := by simp
          have q2 : (l2 != l2) = false := by simp
          go_quiet ((first
            | (go_at_call 16; first | exact quiet_same (unhide HN _) | exact quiet_plus (unhide HN _))
            | (go_at_call 17; first | exact quiet_same (unhide HH _) | exact quiet_plus (unhide HH _))
            | (go_at_call 18; first | exact quiet_same (unhide HZ _) | exact quiet_plus (unhide HZ _))))
          go_wp2
          go_roundw
          case rel => exact unhide KEY _
          case measure => simp [intOf]; omega
        · have hd1 : decide (0 ≤ n) = true := decide_eq_true hn
          have hd2 : decide (n < 8) = false := decide_eq_false (by omega)
          simp only [hbz] at HZ
          clear hbz hth
          generalize d2.now = n2 at *
          generalize d2.held = l2 at *
          have q1 : (n2 != n2) = false := by simp
          have q2 : (l2 != l2) = false := by simp
          go_quiet ((first
            | (go_at_call 16; first | exact quiet_same (unhide HN _) | exact quiet_plus (unhide HN _))
            | (go_at_call 17; first | exact quiet_same (unhide HH _) | exact quiet_plus (unhide HH _))
            | (go_at_call 18; first | exact quiet_same (unhide HZ _) | exact quiet_plus (unhide HZ _))))
          go_wp2
          go_roundw
          case rel => exact unhide KEY _
          case measure => simp [intOf]; omega
        · have t0 := hth k hk
          rw [← hbz] at t0
          have hd1 : decide (0 ≤ (k : Int)) = true := decide_eq_true hn
          have hd2 : decide ((k : Int) < 8) = true := decide_eq_true hn'
          clear hbz hth
          generalize busyB d2 (k : Int) = bz at *
          generalize d2.now = n2 at *
          generalize d2.held = l2 at *
          have q1 : (n2 != n2) = false := by simp
          have q2 : (l2 != l2) = false := by simp
          have q3 : (bz != bz) = false := by simp
          go_quiet ((first
            | (go_at_call 16; first | exact quiet_same (unhide HN _) | exact quiet_plus (unhide HN _))
            | (go_at_call 17; first | exact quiet_same (unhide HH _) | exact quiet_plus (unhide HH _))
            | (go_at_call 18; first | exact quiet_same (unhide HZ _) | exact quiet_plus (unhide HZ _))))
          go_wp2
          go_roundw
          case rel => exact unhide KEY _
          case measure => simp [intOf]; omega
      · --BEGIN
        have HA := hide (fun (w1 : World) (h1 : Wo w1 G d) => obegin h1 n v)
        have HB := hide (fun (w1 : World) (h1 : IsX w1 b h d) => xbegin_calls h1 n v)
        generalize bgn d n v = y at *
        obtain ⟨d2, er⟩ := y
        dsimp only at HA HB
        obtain ⟨_, X1, X2⟩ := HO.out.c
        have HX1 := hide X1
        have HX2 := hide X2
        clear X1 X2
        go_wp2_with fail
        have hO := HO.out
        have hDq := hD.al (.cells #[.bool true, .int .i64 n, .int .i64 v] 29)
        have hMq := hM.al (.cells #[.bool true, .int .i64 n, .int .i64 v] 29)
        have hFq := hF.alloc (.cells #[.bool true, .int .i64 n, .int .i64 v] 29)
        have o1 := HX1.out
        have o2 := HX2.out
        clear HX1 HX2 HO hD hM hF c0 c1 c2
        generalize wr.alloc (.cells #[.bool true, .int .i64 n, .int .i64 v] 29) = wq at *
        generalize wr.heap.size = bx at *
        go_region_held3 (fun w' => w'.cell? ⟨bx, 1, none⟩ = some (.int .i64 n) ∧ w'.cell? ⟨bx, 2, none⟩ = some (.int .i64 v)) ((first | go_keep | (refine ⟨?_, ?_⟩ <;> assumption)))
          ((first
            | (go_at_call 12; refine (unhide HA _ (by first | exact hDq | exact hDq.same rfl)).mono ?_; rintro e w4 ⟨rfl, hD4, hF4⟩; have hO4 := MB.w (show MB wq.drew bx true n v from hO) (hDq.same (w' := wq.drew) rfl) hF4; have hM4 := (hMq.same (w' := wq.drew) rfl).w hF4 hGb hGh; obtain ⟨_, p1, p2⟩ := hO4.c)
            | (go_at_call 13; refine (unhide HB _ hM4).mono ?_; rintro e w5 ⟨rfl, hM5, hF5⟩; have hD5 := hD4.x hM4 hF5 hGb hGh; have hO5 := hO4.x hM4 hF5; obtain ⟨_, p4, p5⟩ := hO5.c)))
        all_goals
          go_wp2_with fail
          have hl5 := lt_of_blk hO5
          obtain ⟨_, y1, _⟩ := hO5.c
          have HFn : Hid (Fr (fun _ => False) w w5) := unhide HFX _ _ ((hFq.drew).wrd hF4 hG) hF5
          have HN := hide (fun (q : Nat) => now_calls (hD5.drewN q).is)
          have HH := hide (fun (q : Nat) => holds_calls (hD5.drewN q).is)
          have HZ := hide (fun (q : Nat) => busy_calls (hD5.drewN q).is n)
          have m0 := hM5.c0
          have m1 := hM5.c1
          have m2 := hM5.c2
          have hth := fun k (hk : k < 8) => (hM5.ct hk).1
          have hlb := hM5.ltb
          have hlh := hM5.lth
          have hcs := busy_cases d2 n
          have HD5 := hide hD5
          have HM5 := hide hM5
          have KEY := hide (show ∀ q, ∃ (j' : Nat) (d : Wd), j' ≤ n1 ∧ Value.int .i64 ((j : Int) + 1) = .int .i64 j' ∧ Wo (w5.drewN q) G d ∧ IsX (w5.drewN q) b h d ∧ Fr (fun _ => False) w (w5.drewN q) from fun q => ⟨j + 1, d2, by omega, by go_num, hD5.drewN q, hM5.drewN q, (unhide HFn).drewN q⟩)
          clear hDq hMq hFq hD4 hM4 hF4 hD5 hM5 hF5 HA HB HD5 HM5 HFn hO hO4 hO5 o1 o2 p1 p2 p4 p5
          rcases hcs with ⟨hn, hbz⟩ | ⟨hn, hn', hbz⟩ | ⟨hn, hn', k, hk, rfl, hbz⟩
          · have hd1 : decide (0 ≤ n) = false := decide_eq_false (by omega)
            simp only [hbz] at HZ
            clear hbz hth
            generalize d2.now = n2 at *
            generalize d2.held = l2 at *
            have q1 : (n2 != n2) = false := by simp
            have q2 : (l2 != l2) = false := by simp
            go_quiet ((first
              | (go_at_call 16; first | exact quiet_same (unhide HN _) | exact quiet_plus (unhide HN _))
              | (go_at_call 17; first | exact quiet_same (unhide HH _) | exact quiet_plus (unhide HH _))
              | (go_at_call 18; first | exact quiet_same (unhide HZ _) | exact quiet_plus (unhide HZ _))))
            go_wp2
            go_roundw
            case rel => exact unhide KEY _
            case measure => simp [intOf]; omega
          · have hd1 : decide (0 ≤ n) = true := decide_eq_true hn
            have hd2 : decide (n < 8) = false := decide_eq_false (by omega)
            simp only [hbz] at HZ
            clear hbz hth
            generalize d2.now = n2 at *
            generalize d2.held = l2 at *
            have q1 : (n2 != n2) = false := by simp
            have q2 : (l2 != l2) = false := by simp
            go_quiet ((first
              | (go_at_call 16; first | exact quiet_same (unhide HN _) | exact quiet_plus (unhide HN _))
              | (go_at_call 17; first | exact quiet_same (unhide HH _) | exact quiet_plus (unhide HH _))
              | (go_at_call 18; first | exact quiet_same (unhide HZ _) | exact quiet_plus (unhide HZ _))))
            go_wp2
            go_roundw
            case rel => exact unhide KEY _
            case measure => simp [intOf]; omega
          · have t0 := hth k hk
            rw [← hbz] at t0
            have hd1 : decide (0 ≤ (k : Int)) = true := decide_eq_true hn
            have hd2 : decide ((k : Int) < 8) = true := decide_eq_true hn'
            clear hbz hth
            generalize busyB d2 (k : Int) = bz at *
            generalize d2.now = n2 at *
            generalize d2.held = l2 at *
            have q1 : (n2 != n2) = false := by simp
            have q2 : (l2 != l2) = false := by simp
            have q3 : (bz != bz) = false := by simp
            go_quiet ((first
              | (go_at_call 16; first | exact quiet_same (unhide HN _) | exact quiet_plus (unhide HN _))
              | (go_at_call 17; first | exact quiet_same (unhide HH _) | exact quiet_plus (unhide HH _))
              | (go_at_call 18; first | exact quiet_same (unhide HZ _) | exact quiet_plus (unhide HZ _))))
            go_wp2
            go_roundw
            case rel => exact unhide KEY _
            case measure => simp [intOf]; omega
    · --END
      obtain rfl : j = n1 := by omega
      go_wp2
      go_ret
      exact ⟨rfl, hF⟩

end Go.Proofs.Ytpchnpdolhogdaa
