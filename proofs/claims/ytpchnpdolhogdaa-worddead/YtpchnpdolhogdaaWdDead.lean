/-
  WordDead: who is dead stays so.
-/
import Derived.Test.YtpchnpdolhogdaaWdOnce
namespace Go.Proofs.Ytpchnpdolhogdaa
open Go.RowKit
set_option linter.unusedVariables false
set_option maxRecDepth 8192

/-- where a word is dead -/
structure De (d : Wd) : Prop where
  ow : Ow d
  now : d.now = 4

theorem De.held {d : Wd} (h : De d) : d.held = false := by
  cases e : d.held
  · rfl
  · have h1 := h.ow.held.1 e
    have h2 := h.now
    omega

theorem dead_step {d : Wd} (h : De d) {k : Nat} (hk : k < 8) (o : Int) :
    ∃ d1 d2 x, lbg d k o = d1 ∧ wstp d1 k = (d2, x) ∧ 0 < d1.pc k ∧ De d2 ∧ (x == 1) = false := by
  have h1 := lbg_ow h.ow k o
  have hp := lbg_pos (d := d) hk o
  obtain ⟨s1, s2⟩ := lbg_same (d := d) hk o
  rw [h.now] at s1
  rw [h.held] at s2
  generalize lbg d k o = d1 at *
  have key : (acc d1.now d1.held (d1.pc k)).now = 4 ∧ ((acc d1.now d1.held (d1.pc k)).came == 1) = false := by
    rw [s1, s2]
    by_cases hz : k = 0
    · subst hz
      have h0 := h1.zero
      have h5 : ¬ 5 ≤ d1.pc 0 := fun h => by have := h1.rest h; rw [s2] at this; cases this
      have : d1.pc 0 = 4 := by omega
      rw [this]
      exact ⟨rfl, rfl⟩
    · have h3 := h1.more k (by omega)
      have : d1.pc k = 1 ∨ d1.pc k = 2 ∨ d1.pc k = 3 := by omega
      rcases this with q | q | q <;> rw [q] <;> exact ⟨rfl, rfl⟩
  exact ⟨_, _, _, rfl, rfl, hp, ⟨h1.wstp hp, key.1⟩, key.2⟩

/-- the holder's operation, step by step -/
theorem hold_step {d : Wd} (h : Ow d) (hp : 0 < d.pc 0) : ((wstp d 0).1.pc 0 = 0 ∨ (wstp d 0).1.pc 0 = 6) ∧ (d.pc 0 = 6 → (wstp d 0).1.pc 0 = 0) := by
  have e : (wstp d 0).1.pc 0 = (acc d.now d.held (d.pc 0)).pc := rfl
  rw [e]
  have h8 := h.le 0
  have h0 := h.zero
  have : d.pc 0 = 4 ∨ d.pc 0 = 5 ∨ d.pc 0 = 6 ∨ d.pc 0 = 7 ∨ d.pc 0 = 8 := by omega
  rcases this with q | q | q | q | q <;> rw [q] <;> simp only [acc]
  · split <;> simp
  · split <;> simp
  · split <;> simp
  · repeat' split
    all_goals simp
  · simp

theorem bgn_die {d : Wd} (h0 : d.pc 0 = 0) (hh : d.held = true) : bgn d 0 4 = (d.set 0 8, 0) := by
  unfold bgn
  rw [if_pos (by omega)]
  have e : (0 : Int).toNat = 0 := rfl
  rw [e, if_neg (show ¬ fpc 0 4 = 0 by decide), if_neg (show ¬ 0 < d.pc 0 by omega), if_neg (fun h => by have := h.2.1 hh; omega)]
  rfl

theorem die_dead {d : Wd} (h : Ow (d.set 0 8)) : (wstp (d.set 0 8) 0).2 = 0 ∧ De (wstp (d.set 0 8) 0).1 :=
  ⟨rfl, h.wstp (show 0 < 8 by omega), rfl⟩

set_option maxHeartbeats 1000000 in
theorem dead_calls {w : World} {a1 : Option Addr} {n1 k1 : Nat} {rows : List Rw} (A1 : RwA w.heap.size w a1 n1 rows) (hn1 : n1 * 16 ≤ 140737488351232) {a2 : Option Addr} {n2 k2 : Nat} {more : List Rw} (A2 : RwA w.heap.size w a2 n2 more) (hn2 : n2 * 16 ≤ 140737488351232) :
    Calls Try.prog 7 #[.slice a1 n1 k1, .slice a2 n2 k2] w fun e w' => e = .returned (.bool true) ∧ Fr (fun _ => False) w w' := by
  go_enter Try.func7, Try.ntmps7
  go_wp2_with (first
    | (go_at_call 9; refine (lives_calls _).mono ?_; rintro e w1 ⟨rfl, hF0⟩)
    | (go_at_call 10; refine (onew2 _).mono ?_; rintro e w2 ⟨G, hG0, rfl, hD, hF⟩))
  have hG : w.heap.size ≤ G := by rw [← hG0.out]; exact hF0.size
  have hFr := hF0.trans hF (T := fun _ => False) (fun _ _ h => h) (fun _ _ h => h)
  clear hG0 hF0 hF
  go_loopw [6] (fun i wr => ∃ (j : Nat) (d : Wd), j ≤ n1 ∧ i = .int .i64 j ∧ Wo wr G d ∧ Fr (fun _ => False) w wr) (fun i _ => n1 - (intOf i).toNat)
  case atStart => exact ⟨0, _, by omega, rfl, hD, hFr⟩
  case round =>
    clear hD hFr
    obtain ⟨j, d, hj, rfl, hD, hF⟩ := hrel
    by_cases hlt : j < n1
    · obtain ⟨ba, off, ⟨t, o⟩, vs, rfl, hba, hx, hc, rfl, _⟩ := (A1.fr hF (fun _ h => h.elim)).at hlt
      have c0 : wr.cell? ⟨ba, off + j * 2, none⟩ = some (.int .i64 t) := by simpa using hc 0 _ rfl
      have c1 : wr.cell? ⟨ba, off + j * 2 + 1, none⟩ = some (.int .i64 o) := by simpa using hc 1 _ rfl
      have hlt' : (j : Int) < (n1 : Int) := by omega
      clear hx hc
      obtain ⟨k, hk8, hk⟩ := thI_lt t
      have hp := lbg_pos (d := d) hk8 o
      have HB := hide (lbegin hD hk hk8 o)
      generalize lbg d k o = d1 at *
      have HST := hide (fun (w1 : World) (h : Wo w1 G d1) => ostep h hk8 hp)
      generalize wstp d1 k = dx at *
      obtain ⟨d2, x⟩ := dx
      dsimp only at HST
      have hltG := hD.is.lt
      have hszF := hF.size
      clear hp
      go_wp2_with (first
        | (go_at_call 20; refine (unhide HB).mono ?_; rintro e w2 ⟨rfl, hD2, hF2⟩; have e0 := cell_fr hF2 (show ¬ ba = G by omega) c0; have e1 := cell_fr hF2 (show ¬ ba = G by omega) c1)
        | (go_at_call 19; refine (thread_calls hk _ _).mono ?_; rintro e w3 ⟨rfl, hF3⟩; have hD3 := hD2.up hF3)
        | (go_at_call 14; refine (unhide HST _ hD3).mono ?_; rintro e w4 ⟨rfl, hD4, hF4⟩))
      go_roundw
      case rel => exact ⟨j + 1, d2, by omega, by go_num, hD4, ((hF.wrd hF2 hG).trans hF3 (fun _ _ h => h) (fun _ _ h => h)).wrd hF4 hG⟩
      case measure => simp [intOf]; omega
    · obtain rfl : j = n1 := by omega
      clear hlt hj
      go_wp2
      obtain ⟨wo, hwo⟩ : ∃ wo, wo = wr := ⟨_, rfl⟩
      subst hwo
      go_loopw [7] (fun i wr => ∃ (s : Nat) (d : Wd), s ≤ 3 ∧ i = .int .i64 s ∧ Wo wr G d ∧ (1 ≤ s → d.pc 0 = 0 ∨ d.pc 0 = 6) ∧ (2 ≤ s → d.pc 0 = 0) ∧ Fr (fun _ => False) w wr) (fun i _ => 4 - (intOf i).toNat)
      case atStart => exact ⟨0, _, by omega, rfl, hD, fun h => by omega, fun h => by omega, hF⟩
      case round =>
        clear hD hF
        obtain ⟨s, d, hs, rfl, hD, hs1, hs2, hF⟩ := hrel
        have hs4 : (s : Int) < 4 := by omega
        by_cases hp : 0 < d.pc 0
        · have hst := hold_step hD.ow hp
          have HZ : Hid (Calls Try.prog 18 #[.pointer (some ⟨G, 0, none⟩), .int .i64 0] wr fun e w' => e = .returned (.bool true) ∧ wr = w') := busy_yes hD.is (k := 0) (by omega) hp
          have HST : Hid (Calls Try.prog 14 #[.pointer (some ⟨G, 0, none⟩), .int .i64 0] wr fun e w' => e = .returned (.tuple #[.int .i64 (wstp d 0).2, .int .i64 0]) ∧ Wo w' G (wstp d 0).1 ∧ FrW G wr w') := ostep hD (k := 0) (by omega) hp
          generalize wstp d 0 = dx at *
          obtain ⟨d2, x⟩ := dx
          dsimp only at HST hst
          have HS := hide hst
          have HP := hide hp
          have H1 := hide hs1
          have H2 := hide hs2
          clear hst hp hs1 hs2
          go_wp2_with (first
            | (go_at_call 18; refine (unhide HZ).mono ?_; rintro e w' ⟨rfl, rfl⟩)
            | (go_at_call 14; refine (unhide HST).mono ?_; rintro e w4 ⟨rfl, hD4, hF4⟩))
          go_roundw
          case rel =>
            have hs := HS.out
            have hp := HP.out
            have hs1 := H1.out
            have hs2 := H2.out
            exact ⟨s + 1, d2, by omega, by go_num, hD4, fun _ => hs.1, fun h => by
              rcases hs1 (by omega) with h0 | h6
              · omega
              · exact hs.2 h6, hF.wrd hF4 hG⟩
          case measure => simp [intOf]; omega
        · have h0 : d.pc 0 = 0 := by omega
          have HZ : Hid (Calls Try.prog 18 #[.pointer (some ⟨G, 0, none⟩), .int .i64 0] wr fun e w' => e = .returned (.bool false) ∧ wr = w') := busy_no hD.is (k := 0) (by omega) h0
          cases hd : d.held
          · have HH : Hid (Calls Try.prog 17 #[.pointer (some ⟨G, 0, none⟩)] wr fun e w' => e = .returned (.bool false) ∧ wr = w') := by have := holds_calls hD.is; rw [hd] at this; exact this
            clear hs1 hs2 hp h0 hd
            go_wp2_with (first
              | (go_at_call 18; refine (unhide HZ).mono ?_; rintro e w' ⟨rfl, rfl⟩)
              | (go_at_call 17; refine (unhide HH).mono ?_; rintro e w' ⟨rfl, rfl⟩))
            go_ret
            exact ⟨rfl, hF⟩
          · have HH : Hid (Calls Try.prog 17 #[.pointer (some ⟨G, 0, none⟩)] wr fun e w' => e = .returned (.bool true) ∧ wr = w') := by have := holds_calls hD.is; rw [hd] at this; exact this
            have hB := obegin hD 0 4
            rw [bgn_die h0 hd] at hB
            have HB := hide hB
            clear hs1 hs2 hp h0 hd hB
            have HST : Hid (∀ wx, Wo wx G (d.set 0 8) → Calls Try.prog 14 #[.pointer (some ⟨G, 0, none⟩), .int .i64 0] wx fun e w' => e = .returned (.tuple #[.int .i64 0, .int .i64 0]) ∧ Wo w' G (wstp (d.set 0 8) 0).1 ∧ FrW G wx w') :=
              fun wx h => ostep h (k := 0) (by omega) (show 0 < 8 by omega)
            go_wp2_with (first
              | (go_at_call 18; refine (unhide HZ).mono ?_; rintro e w' ⟨rfl, rfl⟩)
              | (go_at_call 17; refine (unhide HH).mono ?_; rintro e w' ⟨rfl, rfl⟩)
              | (go_at_call 12; refine (unhide HB).mono ?_; rintro e w2 ⟨rfl, hD2, hF2⟩)
              | (go_at_call 14; refine (unhide HST _ hD2).mono ?_; rintro e w3 ⟨rfl, hD3, hF3⟩))
            have hE := (die_dead hD2.ow).2
            have hFr := (hF.wrd hF2 hG).wrd hF3 hG
            generalize (wstp (d.set 0 8) 0).1 = d3 at *
            clear HB HST HH HZ hF hF2 hF3 hD hD2
            obtain ⟨wo, hwo⟩ : ∃ wo, wo = wr := ⟨_, rfl⟩
            subst hwo
            go_loopw [8] (fun i wr => ∃ (j : Nat) (d : Wd), j ≤ n2 ∧ i = .int .i64 j ∧ Wo wr G d ∧ De d ∧ Fr (fun _ => False) w wr) (fun i _ => n2 - (intOf i).toNat)
            case atStart => exact ⟨0, d3, by omega, rfl, hD3, hE, hFr⟩
            case round =>
              clear hD3 hFr hE
              obtain ⟨i, d, hi, rfl, hD, hE, hF⟩ := hrel
              by_cases hlt : i < n2
              · obtain ⟨ba, off, ⟨t, o⟩, vs, rfl, hba, hx, hc, rfl, _⟩ := (A2.fr hF (fun _ h => h.elim)).at hlt
                have c0 : wr.cell? ⟨ba, off + i * 2, none⟩ = some (.int .i64 t) := by simpa using hc 0 _ rfl
                have c1 : wr.cell? ⟨ba, off + i * 2 + 1, none⟩ = some (.int .i64 o) := by simpa using hc 1 _ rfl
                have hlt' : (i : Int) < (n2 : Int) := by omega
                clear hx hc
                obtain ⟨k, hk8, hk⟩ := thI_lt t
                obtain ⟨d1, d2, x, h1, h2, hp, hE2, hx1⟩ := dead_step hE hk8 o
                have HB := hide (lbegin hD hk hk8 o)
                have HST := hide (fun (w1 : World) (h : Wo w1 G d1) => ostep h hk8 hp)
                rw [h1] at HB
                simp only [h2] at HST
                have hnow := hE2.now
                have hheld := hE2.held
                have HN := hide (fun (w1 : World) (h : Wo w1 G d2) => now_calls h.is)
                have HH := hide (fun (w1 : World) (h : Wo w1 G d2) => holds_calls h.is)
                simp only [hnow] at HN
                simp only [hheld] at HH
                have hltG := hD.is.lt
                have hszF := hF.size
                clear hp hnow hheld h1 h2
                go_wp2_with (first
                  | (go_at_call 20; refine (unhide HB).mono ?_; rintro e w2 ⟨rfl, hD2, hF2⟩; have e0 := cell_fr hF2 (show ¬ ba = G by omega) c0; have e1 := cell_fr hF2 (show ¬ ba = G by omega) c1)
                  | (go_at_call 19; refine (thread_calls hk _ _).mono ?_; rintro e w3 ⟨rfl, hF3⟩; have hD3 := hD2.up hF3)
                  | (go_at_call 14; refine (unhide HST _ hD3).mono ?_; rintro e w4 ⟨rfl, hD4, hF4⟩)
                  | (go_at_call 16; refine (unhide HN _ hD4).mono ?_; rintro e w' ⟨rfl, rfl⟩)
                  | (go_at_call 17; refine (unhide HH _ hD4).mono ?_; rintro e w' ⟨rfl, rfl⟩))
                go_roundw
                case rel => exact ⟨i + 1, d2, by omega, by go_num, hD4, hE2, ((hF.wrd hF2 hG).trans hF3 (fun _ _ h => h) (fun _ _ h => h)).wrd hF4 hG⟩
                case measure => simp [intOf]; omega
              · obtain rfl : i = n2 := by omega
                have HN : Hid (Calls Try.prog 16 #[.pointer (some ⟨G, 0, none⟩)] wr fun e w' => e = .returned (.int .i64 4) ∧ wr = w') := by have := now_calls hD.is; rw [hE.now] at this; exact this
                go_wp2_with (go_at_call 16; refine (unhide HN).mono ?_; rintro e w' ⟨rfl, rfl⟩)
                go_ret
                exact ⟨rfl, hF⟩

end Go.Proofs.Ytpchnpdolhogdaa
