/-
  WordOnce: never in two queues, never lost.
-/
import Derived.Test.YtpchnpdolhogdaaWdOncePlain
import Derived.LoopTactic
namespace Go.Proofs.Ytpchnpdolhogdaa
open Go.RowKit
set_option linter.unusedVariables false
set_option maxRecDepth 8192

/-- what was there when the law was called stands, but for the word's block, that is newer -/
theorem Fr.wrd {w0 w w' : World} {b : Nat} (h : Fr (fun _ => False) w0 w) (k : FrW b w w') (hb : w0.heap.size ≤ b) : Fr (fun _ => False) w0 w' :=
  h.trans k (fun _ _ h => h) (fun i hi e => by omega)

theorem onew2 (w : World) :
    Calls Try.prog 10 #[] w fun e w' => ∃ G, Hid (w.heap.size = G) ∧ e = .returned (.pointer (some ⟨G, 0, none⟩)) ∧ Wo w' G Wd.new ∧ Fr (fun _ => False) w w' :=
  (onew w).mono fun e w' ⟨h1, h2, h3⟩ => ⟨_, hide rfl, h1, h2, h3⟩

set_option maxHeartbeats 8000000 in
theorem once_calls {w : World} {a1 : Option Addr} {n1 k1 : Nat} {rows : List Rw} (A1 : RwA w.heap.size w a1 n1 rows) (hn1 : n1 * 16 ≤ 140737488351232) :
    Calls Try.prog 4 #[.slice a1 n1 k1] w fun e w' => e = .returned (.bool true) ∧ Fr (fun _ => False) w w' := by
  go_enter Try.func4, Try.ntmps4
  go_wp2_with (first
    | (go_at_call 9; refine (lives_calls _).mono ?_; rintro e w1 ⟨rfl, hF0⟩)
    | (go_at_call 10; refine (onew2 _).mono ?_; rintro e w2 ⟨G, hG0, rfl, hD, hF⟩))
  have hG : w.heap.size ≤ G := by rw [← hG0.out]; exact hF0.size
  have hFr := hF0.trans hF (T := fun _ => False) (fun _ _ h => h) (fun _ _ h => h)
  clear hG0 hF0 hF
  go_loopw [4, 5, 6] (fun p s i wr => ∃ (j P T : Nat) (d : Wd), j ≤ n1 ∧ i = .int .i64 j ∧ p = .int .i64 P ∧ s = .int .i64 T ∧ Wo wr G d ∧ T ≤ j ∧ P = T + (if d.now = 1 then 1 else 0) ∧ Fr (fun _ => False) w wr) (fun _ _ i _ => n1 - (intOf i).toNat)
  case atStart => exact ⟨0, 1, 0, Wd.new, by omega, rfl, rfl, rfl, hD, by omega, rfl, hFr⟩
  case round =>
    clear hD hFr
    obtain ⟨j, P, T, d, hj, rfl, rfl, rfl, hD, hT, hP, hF⟩ := hrel
    by_cases hlt : j < n1
    · obtain ⟨ba, off, ⟨t, o⟩, vs, rfl, hba, hx, hc, rfl, _⟩ := (A1.fr hF (fun _ h => h.elim)).at hlt
      have c0 : wr.cell? ⟨ba, off + j * 2, none⟩ = some (.int .i64 t) := by simpa using hc 0 _ rfl
      have c1 : wr.cell? ⟨ba, off + j * 2 + 1, none⟩ = some (.int .i64 o) := by simpa using hc 1 _ rfl
      have hlt' : (j : Int) < (n1 : Int) := by omega
      clear hx hc
      obtain ⟨k, hk8, hk⟩ := thI_lt t
      obtain ⟨d1, d2, x, h1, h2, o1, o2, hp, hh, hn, hK⟩ := kind_of hD.ow hk8 o
      have HT := hide (fun (w1 : World) (hF1 : Fr (fun _ => False) wr w1) => (thread_calls hk o w1))
      have HB := hide (fun (w1 : World) (h : Wo w1 G d) => lbegin h hk hk8 o)
      have HST := hide (fun (w1 : World) (h : Wo w1 G d1) => ostep h hk8 hp)
      have HH := hide (fun (w1 : World) (h : Wo w1 G d1) => holds_calls h.is)
      have HN := hide (fun (w1 : World) (h : Wo w1 G d2) => now_calls h.is)
      simp only [h1] at HB
      simp only [h2] at HST
      simp only [hh] at HH
      have hltG := hD.is.lt
      generalize d.now = n at *
      obtain ⟨n2, hn2⟩ : ∃ n2, d2.now = n2 := ⟨_, rfl⟩
      simp only [hn2] at HN
      rw [hn2] at hK
      have HP := hide hP
      have HM := hide hn2
      clear h1 h2 hp hh hn o1 o2 hP hn2
      have hTi : (0 : Int) ≤ (T : Int) := by omega
      have hTn : (T : Int) < 9223372036854775800 := by omega
      rcases hK with ⟨rfl, rfl, hn⟩ | ⟨rfl, hh, rfl, rfl, rfl⟩ | ⟨hx, hk0, hn⟩
      · have hP1 : P = T := by have := HP.out; rw [if_neg hn] at this; omega
        clear hn HP
        subst hP1
        have key : ∀ (w3 : World), Wo w3 G d2 → Fr (fun _ => False) w w3 → ∃ (j' P' T' : Nat) (d : Wd), j' ≤ n1 ∧ Value.int .i64 ((j : Int) + 1) = .int .i64 j' ∧ Value.int .i64 ((P : Int) + 1) = .int .i64 P' ∧ Value.int .i64 (P : Int) = .int .i64 T' ∧ Wo w3 G d ∧ T' ≤ j' ∧ P' = T' + (if d.now = 1 then 1 else 0) ∧ Fr (fun _ => False) w w3 :=
          fun w3 h1 h2 => ⟨j + 1, P + 1, P, d2, by omega, by go_num, by go_num, rfl, h1, by omega, by rw [HM.out]; rfl, h2⟩
        have KEY := hide key
        clear key
        by_cases hz : k = 0
        · subst hz
          cases hd : d.held <;> rw [hd] at HH <;> clear hd
          all_goals
            go_wp2_with (first
              | (go_at_call 19; refine (thread_calls hk _ _).mono ?_; rintro e w1 ⟨rfl, hF1⟩; have hD1 := hD.up hF1; have e0 := cell_fr hF1 (fun h => h) c0; have e1 := cell_fr hF1 (fun h => h) c1)
              | (go_at_call 20; refine (unhide HB _ hD1).mono ?_; rintro e w2 ⟨rfl, hD2, hF2⟩)
              | (go_at_call 17; refine (unhide HH _ hD2).mono ?_; rintro e w' ⟨rfl, rfl⟩)
              | (go_at_call 14; refine (unhide HST _ hD2).mono ?_; rintro e w3 ⟨rfl, hD3, hF3⟩)
              | (go_at_call 16; refine (unhide HN _ hD3).mono ?_; rintro e w' ⟨rfl, rfl⟩))
            go_roundw
            case rel => exact unhide KEY _ hD3 (((hF.trans hF1 (fun _ _ h => h) (fun _ _ h => h)).wrd hF2 hG).wrd hF3 hG)
            case measure => simp [intOf]; omega
        · have hbk : ((k : Int) == 0) = false := by simp; omega
          clear hz
          go_wp2_with (first
            | (go_at_call 19; refine (thread_calls hk _ _).mono ?_; rintro e w1 ⟨rfl, hF1⟩; have hD1 := hD.up hF1; have e0 := cell_fr hF1 (fun h => h) c0; have e1 := cell_fr hF1 (fun h => h) c1)
            | (go_at_call 20; refine (unhide HB _ hD1).mono ?_; rintro e w2 ⟨rfl, hD2, hF2⟩)
            | (go_at_call 17; refine (unhide HH _ hD2).mono ?_; rintro e w' ⟨rfl, rfl⟩)
            | (go_at_call 14; refine (unhide HST _ hD2).mono ?_; rintro e w3 ⟨rfl, hD3, hF3⟩)
            | (go_at_call 16; refine (unhide HN _ hD3).mono ?_; rintro e w' ⟨rfl, rfl⟩))
          go_roundw
          case rel => exact unhide KEY _ hD3 (((hF.trans hF1 (fun _ _ h => h) (fun _ _ h => h)).wrd hF2 hG).wrd hF3 hG)
          case measure => simp [intOf]; omega
      · have hP1 : P = T + 1 := HP.out
        clear HP
        subst hP1
        rw [hh] at HH
        go_wp2_with (first
          | (go_at_call 19; refine (thread_calls hk _ _).mono ?_; rintro e w1 ⟨rfl, hF1⟩; have hD1 := hD.up hF1; have e0 := cell_fr hF1 (fun h => h) c0; have e1 := cell_fr hF1 (fun h => h) c1)
          | (go_at_call 20; refine (unhide HB _ hD1).mono ?_; rintro e w2 ⟨rfl, hD2, hF2⟩)
          | (go_at_call 17; refine (unhide HH _ hD2).mono ?_; rintro e w' ⟨rfl, rfl⟩)
          | (go_at_call 14; refine (unhide HST _ hD2).mono ?_; rintro e w3 ⟨rfl, hD3, hF3⟩)
          | (go_at_call 16; refine (unhide HN _ hD3).mono ?_; rintro e w' ⟨rfl, rfl⟩))
        go_roundw
        case rel => exact ⟨j + 1, T + 1, T + 1, d2, by omega, by go_num, rfl, by go_num, hD3, by omega, by rw [HM.out]; rfl, ((hF.trans hF1 (fun _ _ h => h) (fun _ _ h => h)).wrd hF2 hG).wrd hF3 hG⟩
        case measure => simp [intOf]; omega
      · have hx1 : (x == 1) = false := by simpa using hx
        have hb : ∃ q : Nat, q ≤ 1 ∧ P = T + q ∧ (d2.now = 1 ↔ q = 1) ∧ (n2 == 1) = decide (q = 1) := by
          rw [HM.out]
          by_cases h1 : n = 1
          · refine ⟨1, by omega, by have := HP.out; rw [if_pos h1] at this; exact this, by simp [hn, h1], by simp [hn, h1]⟩
          · refine ⟨0, by omega, by have := HP.out; rw [if_neg h1] at this; exact this, by simp [hn, h1], by simp [hn, h1]⟩
        obtain ⟨q, hq, hPq, hqi, hn1⟩ := hb
        have key : ∀ (w3 : World), Wo w3 G d2 → Fr (fun _ => False) w w3 → ∃ (j' P' T' : Nat) (d : Wd), j' ≤ n1 ∧ Value.int .i64 ((j : Int) + 1) = .int .i64 j' ∧ Value.int .i64 (P : Int) = .int .i64 P' ∧ Value.int .i64 (T : Int) = .int .i64 T' ∧ Wo w3 G d ∧ T' ≤ j' ∧ P' = T' + (if d.now = 1 then 1 else 0) ∧ Fr (fun _ => False) w w3 :=
          fun w3 h1 h2 => ⟨j + 1, P, T, d2, by omega, by go_num, rfl, rfl, h1, by omega, by
            by_cases h : d2.now = 1
            · rw [if_pos h, hPq, hqi.1 h]
            · rw [if_neg h, hPq]; have : ¬ q = 1 := fun e => h (hqi.2 e); omega, h2⟩
        have KEY := hide key
        have hPb : (P : Int) < 9223372036854775800 := by omega
        clear key hqi hn HP HM hx
        have hsplit : (k = 0 ∧ d.held = true) ∨ (k = 0 ∧ d.held = false ∧ (x == 0) = false) ∨ (((k : Int) == 0) = false) := by
          by_cases hz : k = 0
          · cases hd : d.held
            · exact .inr (.inl ⟨hz, rfl, by
                have : x ≠ 0 := fun e => hk0 ⟨hz, hd, e⟩
                simpa using this⟩)
            · exact .inl ⟨hz, rfl⟩
          · exact .inr (.inr (by simp; omega))
        clear hk0
        have hq01 : q = 0 ∨ q = 1 := by omega
        clear hq
        rcases hsplit with ⟨rfl, hd⟩ | ⟨rfl, hd, hx0⟩ | hbk <;> (try rw [hd] at HH) <;> (try clear hd) <;> rcases hq01 with rfl | rfl <;> (try rw [Nat.add_zero] at hPq) <;> subst hPq <;> (try rw [show decide (0 = 1) = false from rfl] at hn1) <;> (try rw [show decide (1 = 1) = true from rfl] at hn1)
        all_goals
          go_wp2_with (first
            | (go_at_call 19; refine (thread_calls hk _ _).mono ?_; rintro e w1 ⟨rfl, hF1⟩; have hD1 := hD.up hF1; have e0 := cell_fr hF1 (fun h => h) c0; have e1 := cell_fr hF1 (fun h => h) c1)
            | (go_at_call 20; refine (unhide HB _ hD1).mono ?_; rintro e w2 ⟨rfl, hD2, hF2⟩)
            | (go_at_call 17; refine (unhide HH _ hD2).mono ?_; rintro e w' ⟨rfl, rfl⟩)
            | (go_at_call 14; refine (unhide HST _ hD2).mono ?_; rintro e w3 ⟨rfl, hD3, hF3⟩)
            | (go_at_call 16; refine (unhide HN _ hD3).mono ?_; rintro e w' ⟨rfl, rfl⟩))
          go_roundw
          case rel => exact unhide KEY _ hD3 (((hF.trans hF1 (fun _ _ h => h) (fun _ _ h => h)).wrd hF2 hG).wrd hF3 hG)
          case measure => simp [intOf]; omega
    · obtain rfl : j = n1 := by omega
      go_wp2
      go_ret
      exact ⟨rfl, hF⟩

end Go.Proofs.Ytpchnpdolhogdaa
