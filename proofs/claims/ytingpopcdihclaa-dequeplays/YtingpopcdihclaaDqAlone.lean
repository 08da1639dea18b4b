/-
  DequeAlone: an owner alone has a plain stack.
-/
import Derived.Test.YtingpopcdihclaaDqOnce
namespace Go.Proofs.Ytingpopcdihclaa
open Go.RowKit
set_option linter.unusedVariables false
set_option maxRecDepth 8192

/-- an operation of the owner's under way, that began with the list L0 -/
def AlR (L0 : List Int) (pu : Bool) (i : Int) (d : Dq) (L K : List Int) : Prop :=
  0 < (d.th 0).pc ∧ (pu = true → (d.th 0).pc ≤ 4 ∧ K = [] ∧ L = L0 ∧ (d.th 0).v = i) ∧ (pu = false → 5 ≤ (d.th 0).pc ∧ ((K = [] ∧ L = L0) ∨ ∃ v, K = [v] ∧ L0 = L ++ [v]))

/-- and at its end -/
def AlF (S : Nat) (L0 : List Int) (pu : Bool) (i : Int) (d : Dq) (L : List Int) (y : Dn) : Prop :=
  (d.th 0).pc = 0 ∧ ((pu = true ∧ y = ⟨true, 0, i, 0⟩ ∧ L = L0 ++ [i] ∧ L0.length < S) ∨ (∃ v, pu = true ∧ y = ⟨true, 0, v, 7⟩ ∧ L = L0 ∧ L0.length = S) ∨
    (∃ v, pu = false ∧ y = ⟨true, 1, v, 0⟩ ∧ L0 = L ++ [v]) ∨ (pu = false ∧ y = ⟨true, 1, 0, 8⟩ ∧ L0 = [] ∧ L = []))

theorem al_step {S : Nat} {L0 L K : List Int} {pu : Bool} {i : Int} {d : Dq} (I : Inv S d L K) (A : AlR L0 pu i d L K) :
    ∃ L2 K2, Inv S (stp S d 0).1 L2 K2 ∧ (((stp S d 0).2 = Dn.none ∧ AlR L0 pu i (stp S d 0).1 L2 K2) ∨ ((stp S d 0).2.over = true ∧ AlF S L0 pu i (stp S d 0).1 L2 (stp S d 0).2)) := by
  obtain ⟨a1, a2, a3⟩ := A
  obtain ⟨L2, K2, I2, hE⟩ := inv_own I a1
  have h10 : (d.th 0).pc ≤ 10 := by have hO := I.own; unfold OwnI at hO; omega
  have hpc := stp_pc0 S d a1 h10
  have hlen := I.len
  have hlen2 := I2.len
  have hrest : (stp S d 0).2 = Dn.none → 0 < ((stp S d 0).1.th 0).pc ∧ (((stp S d 0).1.th 0).pc ≤ 4 ↔ (d.th 0).pc ≤ 4) ∧ ((d.th 0).pc ≤ 4 → ((stp S d 0).1.th 0).v = (d.th 0).v) := fun e => by
    rcases hpc with ⟨h1, h2⟩ | ⟨_, ⟨h1, h2, h3, h4⟩, h5⟩
    · rw [e] at h2; simp [Dn.none] at h2
    · exact ⟨by omega, h3, h5⟩
  have hdone : (stp S d 0).2.over = true → ((stp S d 0).1.th 0).pc = 0 := fun e => by
    rcases hpc with ⟨h1, h2⟩ | ⟨h1, _⟩
    · exact h1
    · rw [h1] at e; simp [Dn.none] at e
  generalize (stp S d 0).1 = d2 at *
  generalize (stp S d 0).2 = y at *
  cases hE with
  | quiet =>
    obtain ⟨r1, r2, r3⟩ := hrest rfl
    refine ⟨L, K, I2, .inl ⟨rfl, r1, fun h => ?_, fun h => ?_⟩⟩
    · obtain ⟨b1, b2, b3, b4⟩ := a2 h
      exact ⟨r2.2 b1, b2, b3, by rw [r3 b1, b4]⟩
    · obtain ⟨b1, b2⟩ := a3 h
      exact ⟨by have := r2.1; omega, b2⟩
  | pushed _ v hk hp hv =>
    have hpu : pu = true := by
      cases pu
      · have := (a3 rfl).1; omega
      · rfl
    obtain ⟨b1, b2, b3, b4⟩ := a2 hpu
    have hvi : v = i := by rw [← hv, b4]
    subst hvi b3
    refine ⟨_, _, I2, .inr ⟨rfl, hdone rfl, .inl ⟨hpu, rfl, rfl, ?_⟩⟩⟩
    simp at hlen2; omega
  | full _ v hk hp hl =>
    have hpu : pu = true := by
      cases pu
      · have := (a3 rfl).1; omega
      · rfl
    obtain ⟨b1, b2, b3, b4⟩ := a2 hpu
    exact ⟨_, _, I2, .inr ⟨rfl, hdone rfl, .inr (.inl ⟨v, hpu, rfl, b3, by rw [← b3]; exact hl⟩)⟩⟩
  | took _ x hk hp =>
    have hpu : pu = false := by
      cases pu
      · rfl
      · have := (a2 rfl).1; omega
    obtain ⟨r1, r2, r3⟩ := hrest rfl
    obtain ⟨b1, b2⟩ := a3 hpu
    refine ⟨_, _, I2, .inl ⟨rfl, r1, (fun h => by rw [hpu] at h; cases h), fun _ => ⟨by have := r2.1; omega, .inr ⟨x, rfl, ?_⟩⟩⟩⟩
    rcases b2 with ⟨_, h⟩ | ⟨v, h, _⟩
    · exact h.symm
    · cases h
  | popped _ v hk hp =>
    have hpu : pu = false := by
      cases pu
      · rfl
      · have := (a2 rfl).1; omega
    obtain ⟨b1, b2⟩ := a3 hpu
    refine ⟨_, _, I2, .inr ⟨rfl, hdone rfl, .inr (.inr (.inl ⟨v, hpu, rfl, ?_⟩))⟩⟩
    rcases b2 with ⟨h, _⟩ | ⟨u, h, h2⟩
    · cases h
    · cases h; exact h2
  | empty hk hp =>
    have hpu : pu = false := by
      cases pu
      · rfl
      · have := (a2 rfl).1; omega
    obtain ⟨b1, b2⟩ := a3 hpu
    refine ⟨_, _, I2, .inr ⟨rfl, hdone rfl, .inr (.inr (.inr ⟨hpu, rfl, ?_, rfl⟩))⟩⟩
    rcases b2 with ⟨_, h⟩ | ⟨v, h, _⟩
    · exact h.symm
    · cases h
  | stole v _ _ hk => exact absurd rfl hk
  | missed _ _ e hk he => exact absurd rfl hk

theorem not_row {w : World} {lo b : Nat} {cs : Array Value} {t e : TypeId} (h : w.heap[b]? = some (.cells cs t (0, 0))) (hne : t ≠ e) : ¬ RowsOf w lo e b := by
  rintro ⟨_, cs', h'⟩
  rw [h] at h'
  simp at h'
  exact hne h'.2

theorem DnAt.nr {w : World} {b lo : Nat} {x : Dn} (h : DnAt w b x) : ¬ RowsOf w lo 2 b := not_row h (by decide)

theorem LS.drewN {w : World} {lo : Nat} {v : Value} {l : List Int} (h : LS w lo v l) (n : Nat) : LS (w.drewN n) lo v l := h

/-- where the inner loop stands: k steps done of an operation that began with L0 -/
def AlS (w0 : World) (G S X j : Nat) (lv : Value) (L0 : List Int) (pu : Bool) (k : Nat) (w : World) : Prop :=
  ∃ (d : Dq) (L K : List Int) (y : Dn), IsD w (G + 1) G S d ∧ Inv S d L K ∧ DnAt w X y ∧ LS w (G + 2) lv L0 ∧ Fr (fun _ => False) w0 w ∧ d.top ≤ 8 * j + k ∧ k ≤ 6 ∧
    ((y = Dn.none ∧ AlR L0 pu j d L K ∧ k + rem (d.th 0).pc ≤ 6) ∨ (y.over = true ∧ AlF S L0 pu j d L y))

set_option maxHeartbeats 8000000 in
theorem alone_calls {w : World} (size : Int) {a1 : Option Addr} {n1 k1 : Nat} {ps : List Bool} (A1 : BoA w.heap.size w a1 n1 ps) (hn1 : n1 * 1 ≤ 140737488351232) :
    Calls Try.prog 7 #[.int .i64 size, .slice a1 n1 k1] w fun e w' => e = .returned (.bool true) ∧ Fr (fun _ => False) w w' := by
  rw [Nat.mul_one] at hn1
  go_enter Try.func7, Try.ntmps7
  go_wp2_with (first
    | (go_at_call 9; refine (lives_calls _).mono ?_; rintro e w1 ⟨rfl, hF0⟩)
    | (go_at_call 10; refine (dnew2 _ _).mono ?_; rintro e w2 ⟨G, S, hG0, hS0, rfl, hD, hF⟩))
  have hS1 := clamp_pos size
  have hS2 := clamp_most size
  rw [hS0.out] at hS1 hS2
  have hG : w.heap.size ≤ G := by rw [← hG0.out]; exact hF0.size
  have hFr := hF0.trans hF (T := fun _ => False) (fun _ _ h => h) (fun _ _ h => h)
  clear hG0 hS0 hF0 hF
  go_loopw [6, 7] (fun l i wr => ∃ (j : Nat) (d : Dq) (L : List Int), j ≤ n1 ∧ i = .int .i64 j ∧ IsD wr (G + 1) G S d ∧ Inv S d L [] ∧ (d.th 0).pc = 0 ∧ LS wr (G + 2) l L ∧ d.top ≤ 8 * j ∧ Fr (fun _ => False) w wr) (fun _ i _ => n1 - (intOf i).toNat)
  case atStart => exact ⟨0, Dq.new, [], by omega, rfl, hD, inv_new hS1, rfl, OS.nil _ _ _ _, by simp [Dq.new], hFr⟩
  case round =>
    clear hD hFr
    obtain ⟨j, d, L0, hj, rfl, hD, I, hidle, hO, htop, hF⟩ := hrel
    obtain ⟨la, lc, rfl, _⟩ := hO.cell
    by_cases hlt : j < n1
    · obtain ⟨ba, off, p, vs, rfl, hba, hx, hc, rfl⟩ := A1.at hlt
      have c0w : w.cell? ⟨ba, off + j, none⟩ = some (.bool p) := by simpa using hc 0 _ rfl
      have c0 := cell_fr hF (fun h => h) c0w
      have hlt' : (j : Int) < (n1 : Int) := by omega
      clear hx hc
      have hltG := hD.lt
      have hlen0 := I.len
      have hI1 : ∀ (q : Nat) (v : Int), (q = 1 ∨ q = 5) → Inv S (d.set 0 ⟨q, v, 0, 0, false⟩) L0 [] := fun q v hq => inv_begin I (by omega) hidle q v (.inl ⟨rfl, hq⟩)
      cases p with
      | true =>
        have HB := hide (begin_ok hD (k := 0) (by omega) 0 (j : Int) (by decide) hidle)
        go_wp2_with (go_at_call 13; refine (unhide HB).mono ?_; rintro e w1 ⟨rfl, hD1, hF1⟩; have e0 := cell_fr hF1 (by omega) c0)
        have hO1 := hO.fr hF1 (fun k hk => by have := hk.1; omega)
        have hst : AlS w G S w1.heap.size j (.slice la L0.length lc) L0 true 0 (w1.alloc (.cells #[.bool false, .int .i64 0, .int .i64 0, .int .i64 0] 38)) :=
          ⟨_, L0, [], Dn.none, hD1.al _, hI1 1 j (.inl rfl), DnAt.new w1, hO1.fr ((Fr.refl (fun _ => False) _).alloc _) (fun _ _ h => h), (hF.deq hF1 (by omega) hG).alloc _, by have := htop; simp [set_top]; omega, by omega, .inl ⟨rfl, ⟨by simp [set_th, firstP], fun _ => ⟨by simp [set_th, firstP], rfl, rfl, by simp [set_th]⟩, fun h => by cases h⟩, by simp [set_th, firstP, rem]⟩⟩
        have hltG1 := hD1.lt
        obtain ⟨X, hX⟩ : ∃ X, w1.heap.size = X := ⟨_, rfl⟩
        rw [hX] at hst hltG1
        simp only [hX]
        have HX := hide hX
        clear hX hO1 HB hI1 e0 hD1 hF1 hidle I hD hO hlen0 c0 htop
        go_loopw [10] (fun k wr => ∃ kk : Nat, k = .int .i64 kk ∧ AlS w G S X j (.slice la L0.length lc) L0 true kk wr) (fun k _ => 8 - (intOf k).toNat)
        case atStart => exact ⟨0, rfl, hst⟩
        case round =>
          clear hst
          obtain ⟨kk, rfl, d5, L5, K5, y5, hD5, I5, hX5, hO5, hF5, htop5, hkk, hway⟩ := hrel
          rcases hway with ⟨rfl, hA, hrm⟩ | ⟨hov, hpc5, hfin⟩
          · have hs5 := I5.sd hS2 (by omega) (k := 0) (by omega) hA.1
            have hrem := stp_rem S d5 hs5.pc.1 hs5.pc.2
            have htp := stp_top S d5 hs5.pc.1 hs5.pc.2
            obtain ⟨L6, K6, I6, hw6⟩ := al_step I5 hA
            have HST := hide (step_busy hD5 (k := 0) (by omega) hs5)
            generalize (stp S d5 0).1 = d6 at *
            generalize (stp S d5 0).2 = y6 at *
            obtain ⟨⟨q0, q1, q2, q3⟩, _⟩ := hX5.cs
            have hk8 : (kk : Int) < 8 := by omega
            have HW := hide hw6
            have hXl := lt_of_blk hX5
            clear hw6 hA hs5
            go_wp2_with (go_at_call 15; refine (unhide HST).mono ?_; rintro e w6 ⟨rfl, hD6, hF6⟩; unfold dnV; dsimp only; have hX6 := hX5.fr hF6 (show ¬ (X = G + 1 ∨ X = G) by omega); obtain ⟨⟨r0, r1, r2, r3⟩, z0, z1, z2, z3⟩ := hX6.cs)
            go_roundw
            case rel =>
              refine ⟨kk + 1, by go_num, d6, L6, K6, y6, hD6.fr (dn_fr w6 X y6) (show ¬ G + 1 = X by omega) (show ¬ G = X by omega), I6, hX6.set y6, (hO5.fr hF6 (fun k hk => by have := hk.1; omega)).fr (dn_fr w6 X y6) (fun k hk e => by subst e; exact hX6.nr hk), (hF5.deq hF6 (by omega) hG).trans (dn_fr w6 X y6) (fun _ _ h => h) (fun i hi e => by omega), by omega, by omega, ?_⟩
              rcases HW.out with ⟨rfl, h2⟩ | ⟨h1, h2⟩
              · exact .inl ⟨rfl, h2, by omega⟩
              · exact .inr ⟨h1, h2⟩
            case measure => simp [intOf]; omega
          · rcases hfin with ⟨_, rfl, rfl, hlS⟩ | ⟨v, _, rfl, rfl, hlS⟩ | ⟨v, h, _⟩ | ⟨h, _⟩
            · have hne : ((L0.length : Int) == (S : Int)) = false := by simp; omega
              have hbt := own_idle I5 hpc5
              have hit := items_eq I5 hbt.1
              have h05 := I5.t0
              have hlen2 := I5.len
              have hb1 := hbt.1
              obtain rfl := hbt.2
              have HI := hide (fun (w1 : World) (h1 : IsD w1 (G + 1) G S d5) => items_calls h1 h05 (by omega) (by omega))
              rw [hit] at HI
              obtain ⟨⟨q0, q1, q2, q3⟩, _⟩ := hX5.cs
              have e5 := cell_fr hF5 (fun h => h) c0w
              have hXl := lt_of_blk hX5
              go_wp2_with (first
                | (go_at_call 12; refine (dsize hD5).mono ?_; rintro e w' ⟨rfl, rfl⟩)
                | (at_builtin; refine wpList_append_os _ rfl _ _ 29 rfl 2 (.int .i64 0) 1 8 Try.underlying29 Try.infoLong rfl (G + 2) _ L0.length (rowV2 L0) rfl (hO5.fr ((Fr.refl (fun _ => False) _).alloc _) (fun _ _ h => h)) _ 1 [.int .i64 j] rfl (Src.ofSlice _ Try.underlying29 _ 1 1 _ rfl (cell_one_new _ _ _) (by simp [Value.oneCell'])) (by unfold maxLen; omega) (by omega) (by rw [World.size_alloc]; omega) ?_; intro v' w6 hO6 hF6; obtain ⟨la6, lc6, rfl, _⟩ := hO6.cell; have hD6 := (hD5.al (.cells #[.int .i64 j] 2)).fr hF6 (fun h => by have := h.1; omega) (fun h => by have := h.1; omega); have hO7 : OS w6 (G + 2) 2 1 (.slice la6 (L0.length + 1) lc6) (L0 ++ [(j : Int)]).length (rowV2 (L0 ++ [(j : Int)])) := by simpa [rowV2] using hO6)
                | (go_at_call 21; refine (unhide HI _ hD6).mono ?_; rintro e w7 ⟨vl, rfl, hL, hF7⟩)
                | (go_at_call 20; refine (same_true hL.sl ((LS.sl (hO7)).fr hF7) (by have := hlen2; omega)).mono ?_; rintro e w8 ⟨rfl, hF8⟩))
              go_roundw
              case rel => exact ⟨j + 1, d5, _, by omega, by go_num, (hD6).fr (hF7.trans hF8 (T := fun _ => False) (fun _ _ h => h) (fun _ _ h => h)) (fun h => h) (fun h => h), I5, hpc5, (hO7).fr (hF7.trans hF8 (T := fun _ => False) (fun _ _ h => h) (fun _ _ h => h)) (fun _ _ h => h), by omega, (((hF5.alloc (.cells #[.int .i64 j] 2)).trans hF6 (fun _ _ h => h) (fun i hi h => by have := h.1; omega)).trans hF7 (fun _ _ h => h) (fun _ _ h => h)).trans hF8 (fun _ _ h => h) (fun _ _ h => h)⟩
              case measure => simp [intOf]; omega
            · have hbt := own_idle I5 hpc5
              have hit := items_eq I5 hbt.1
              have h05 := I5.t0
              have hlen2 := I5.len
              have hb1 := hbt.1
              obtain rfl := hbt.2
              have HI := hide (fun (w1 : World) (h1 : IsD w1 (G + 1) G S d5) => items_calls h1 h05 (by omega) (by omega))
              rw [hit] at HI
              obtain ⟨⟨q0, q1, q2, q3⟩, _⟩ := hX5.cs
              have e5 := cell_fr hF5 (fun h => h) c0w
              have hXl := lt_of_blk hX5
              subst hlS
              go_wp2_with (first
                | (go_at_call 12; refine (dsize hD5).mono ?_; rintro e w' ⟨rfl, rfl⟩)
                | (go_at_call 21; refine (unhide HI _ hD5).mono ?_; rintro e w7 ⟨vl, rfl, hL, hF7⟩)
                | (go_at_call 20; refine (same_true hL.sl ((LS.sl (hO5)).fr hF7) (by have := hlen2; omega)).mono ?_; rintro e w8 ⟨rfl, hF8⟩))
              go_roundw
              case rel => exact ⟨j + 1, d5, _, by omega, by go_num, (hD5).fr (hF7.trans hF8 (T := fun _ => False) (fun _ _ h => h) (fun _ _ h => h)) (fun h => h) (fun h => h), I5, hpc5, (hO5).fr (hF7.trans hF8 (T := fun _ => False) (fun _ _ h => h) (fun _ _ h => h)) (fun _ _ h => h), by omega, ((hF5).trans hF7 (fun _ _ h => h) (fun _ _ h => h)).trans hF8 (fun _ _ h => h) (fun _ _ h => h)⟩
              case measure => simp [intOf]; omega
            · cases h
            · cases h
      | false =>
        have HB := hide (begin_ok hD (k := 0) (by omega) 1 (j : Int) (by decide) hidle)
        go_wp2_with (go_at_call 13; refine (unhide HB).mono ?_; rintro e w1 ⟨rfl, hD1, hF1⟩; have e0 := cell_fr hF1 (by omega) c0)
        have hO1 := hO.fr hF1 (fun k hk => by have := hk.1; omega)
        have hst : AlS w G S w1.heap.size j (.slice la L0.length lc) L0 false 0 (w1.alloc (.cells #[.bool false, .int .i64 0, .int .i64 0, .int .i64 0] 38)) :=
          ⟨_, L0, [], Dn.none, hD1.al _, hI1 5 j (.inr rfl), DnAt.new w1, hO1.fr ((Fr.refl (fun _ => False) _).alloc _) (fun _ _ h => h), (hF.deq hF1 (by omega) hG).alloc _, by have := htop; simp [set_top]; omega, by omega, .inl ⟨rfl, ⟨by simp [set_th, firstP], (fun h => by cases h), fun _ => ⟨by simp [set_th, firstP], .inl ⟨rfl, rfl⟩⟩⟩, by simp [set_th, firstP, rem]⟩⟩
        have hltG1 := hD1.lt
        obtain ⟨X, hX⟩ : ∃ X, w1.heap.size = X := ⟨_, rfl⟩
        rw [hX] at hst hltG1
        simp only [hX]
        have HX := hide hX
        clear hX hO1 HB hI1 e0 hD1 hF1 hidle I hD hO hlen0 c0 htop
        go_loopw [10] (fun k wr => ∃ kk : Nat, k = .int .i64 kk ∧ AlS w G S X j (.slice la L0.length lc) L0 false kk wr) (fun k _ => 8 - (intOf k).toNat)
        case atStart => exact ⟨0, rfl, hst⟩
        case round =>
          clear hst
          obtain ⟨kk, rfl, d5, L5, K5, y5, hD5, I5, hX5, hO5, hF5, htop5, hkk, hway⟩ := hrel
          rcases hway with ⟨rfl, hA, hrm⟩ | ⟨hov, hpc5, hfin⟩
          · have hs5 := I5.sd hS2 (by omega) (k := 0) (by omega) hA.1
            have hrem := stp_rem S d5 hs5.pc.1 hs5.pc.2
            have htp := stp_top S d5 hs5.pc.1 hs5.pc.2
            obtain ⟨L6, K6, I6, hw6⟩ := al_step I5 hA
            have HST := hide (step_busy hD5 (k := 0) (by omega) hs5)
            generalize (stp S d5 0).1 = d6 at *
            generalize (stp S d5 0).2 = y6 at *
            obtain ⟨⟨q0, q1, q2, q3⟩, _⟩ := hX5.cs
            have hk8 : (kk : Int) < 8 := by omega
            have HW := hide hw6
            have hXl := lt_of_blk hX5
            clear hw6 hA hs5
            go_wp2_with (go_at_call 15; refine (unhide HST).mono ?_; rintro e w6 ⟨rfl, hD6, hF6⟩; unfold dnV; dsimp only; have hX6 := hX5.fr hF6 (show ¬ (X = G + 1 ∨ X = G) by omega); obtain ⟨⟨r0, r1, r2, r3⟩, z0, z1, z2, z3⟩ := hX6.cs)
            go_roundw
            case rel =>
              refine ⟨kk + 1, by go_num, d6, L6, K6, y6, hD6.fr (dn_fr w6 X y6) (show ¬ G + 1 = X by omega) (show ¬ G = X by omega), I6, hX6.set y6, (hO5.fr hF6 (fun k hk => by have := hk.1; omega)).fr (dn_fr w6 X y6) (fun k hk e => by subst e; exact hX6.nr hk), (hF5.deq hF6 (by omega) hG).trans (dn_fr w6 X y6) (fun _ _ h => h) (fun i hi e => by omega), by omega, by omega, ?_⟩
              rcases HW.out with ⟨rfl, h2⟩ | ⟨h1, h2⟩
              · exact .inl ⟨rfl, h2, by omega⟩
              · exact .inr ⟨h1, h2⟩
            case measure => simp [intOf]; omega
          · rcases hfin with ⟨h, _⟩ | ⟨v, h, _⟩ | ⟨v, _, rfl, rfl⟩ | ⟨_, rfl, rfl, rfl⟩
            · cases h
            · cases h
            · have hbt := own_idle I5 hpc5
              have hit := items_eq I5 hbt.1
              have h05 := I5.t0
              have hlen2 := I5.len
              have hb1 := hbt.1
              obtain rfl := hbt.2
              have HI := hide (fun (w1 : World) (h1 : IsD w1 (G + 1) G S d5) => items_calls h1 h05 (by omega) (by omega))
              rw [hit] at HI
              obtain ⟨⟨q0, q1, q2, q3⟩, _⟩ := hX5.cs
              have e5 := cell_fr hF5 (fun h => h) c0w
              have hXl := lt_of_blk hX5
              obtain ⟨a9, cap9, e9, hT⟩ := hO5.take L5.length (by simp)
              simp at e9
              obtain ⟨rfl, rfl⟩ := e9
              have hT2 : LS wr (G + 2) (.slice la L5.length lc) L5 := by
                have e : (rowV2 (L5 ++ [v])).take (L5.length * 1) = rowV2 L5 := by simp [rowV2]
                rw [e] at hT; exact hT
              obtain ⟨a9, c9, e9, hcap, hmx, hcel⟩ := hO5.cell
              simp at e9 hcap
              obtain ⟨rfl, rfl⟩ := e9
              obtain ⟨gl, ol, rfl, hbg, _, hvs⟩ := hcel (by omega)
              have ev := hvs L5.length (.int .i64 v) (by simp [rowV2])
              have hIL : ((L5 ++ [v]).length : Int) = (L5.length : Int) + 1 := by simp
              have hne0 : (((L5.length : Int) + 1) == 0) = false := by simp; omega
              go_wp2
              go_quiet (fail)
              go_wp2_with (first
                | (go_at_call 21; refine (unhide HI _ (hD5.drewN _)).mono ?_; rintro e w7 ⟨vl, rfl, hL, hF7⟩)
                | (go_at_call 20; refine (same_true hL.sl ((LS.sl (LS.drewN hT2 _)).fr hF7) (by have := hlen2; omega)).mono ?_; rintro e w8 ⟨rfl, hF8⟩))
              go_roundw
              case rel => exact ⟨j + 1, d5, _, by omega, by go_num, (hD5.drewN _).fr (hF7.trans hF8 (T := fun _ => False) (fun _ _ h => h) (fun _ _ h => h)) (fun h => h) (fun h => h), I5, hpc5, (LS.drewN hT2 _).fr (hF7.trans hF8 (T := fun _ => False) (fun _ _ h => h) (fun _ _ h => h)) (fun _ _ h => h), by omega, ((hF5.drewN _).trans hF7 (fun _ _ h => h) (fun _ _ h => h)).trans hF8 (fun _ _ h => h) (fun _ _ h => h)⟩
              case measure => simp [intOf]; omega
            · have hbt := own_idle I5 hpc5
              have hit := items_eq I5 hbt.1
              have h05 := I5.t0
              have hlen2 := I5.len
              have hb1 := hbt.1
              obtain rfl := hbt.2
              have HI := hide (fun (w1 : World) (h1 : IsD w1 (G + 1) G S d5) => items_calls h1 h05 (by omega) (by omega))
              rw [hit] at HI
              obtain ⟨⟨q0, q1, q2, q3⟩, _⟩ := hX5.cs
              have e5 := cell_fr hF5 (fun h => h) c0w
              have hXl := lt_of_blk hX5
              go_wp2_with (first
                | (go_at_call 12; refine (dsize hD5).mono ?_; rintro e w' ⟨rfl, rfl⟩)
                | (go_at_call 21; refine (unhide HI _ hD5).mono ?_; rintro e w7 ⟨vl, rfl, hL, hF7⟩)
                | (go_at_call 20; refine (same_true hL.sl ((LS.sl (hO5)).fr hF7) (by have := hlen2; omega)).mono ?_; rintro e w8 ⟨rfl, hF8⟩))
              go_roundw
              case rel => exact ⟨j + 1, d5, _, by omega, by go_num, (hD5).fr (hF7.trans hF8 (T := fun _ => False) (fun _ _ h => h) (fun _ _ h => h)) (fun h => h) (fun h => h), I5, hpc5, (hO5).fr (hF7.trans hF8 (T := fun _ => False) (fun _ _ h => h) (fun _ _ h => h)) (fun _ _ h => h), by omega, ((hF5).trans hF7 (fun _ _ h => h) (fun _ _ h => h)).trans hF8 (fun _ _ h => h) (fun _ _ h => h)⟩
              case measure => simp [intOf]; omega
    · obtain rfl : j = n1 := by omega
      go_wp2
      go_ret
      exact ⟨rfl, hF⟩

end Go.Proofs.Ytingpopcdihclaa
