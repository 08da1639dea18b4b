/-
  WordKept: a wake keeps the next Sleep from sleeping.
-/
import Derived.Test.YtpchnpdolhogdaaWdOnce
namespace Go.Proofs.Ytpchnpdolhogdaa
open Go.RowKit
set_option linter.unusedVariables false
set_option maxRecDepth 8192

/-- one thread alone has something under way -/
def Sw (n : Int) (h : Bool) (k p : Nat) : Wd := ⟨n, h, fun i => if i = k then p else 0⟩
/-- nobody has -/
def Zw (n : Int) (h : Bool) : Wd := ⟨n, h, fun _ => 0⟩

theorem wstp_S (n : Int) (h : Bool) (k p : Nat) : wstp (Sw n h k p) k = (Sw (acc n h p).now (acc n h p).held k (acc n h p).pc, (acc n h p).came) := by
  have e : (Sw n h k p).pc k = p := by show (if k = k then p else 0) = p; rw [if_pos rfl]
  unfold wstp
  rw [e]
  refine Prod.ext ?_ rfl
  show Wd.mk _ _ _ = Wd.mk _ _ _
  congr 1
  funext i
  show (if i = k then _ else if i = k then p else 0) = if i = k then _ else 0
  by_cases e : i = k
  · rw [if_pos e, if_pos e]; rfl
  · rw [if_neg e, if_neg e, if_neg e]
theorem S_zero (n : Int) (h : Bool) (k : Nat) : Sw n h k 0 = Zw n h := by
  unfold Sw Zw
  congr 1
  funext i
  split <;> rfl
theorem bgn_wake (n : Int) (h : Bool) {k : Nat} (h0 : 0 < k) (h8 : k < 8) : bgn (Zw n h) (k : Int) 0 = (Sw n h k 1, 0) := by
  unfold bgn
  rw [if_pos (by omega), Int.toNat_natCast]
  have e : fpc k 0 = 1 := by unfold fpc; rw [if_neg (by omega), if_pos rfl]
  rw [e, if_neg (by omega), if_neg (show ¬ 0 < (Zw n h).pc k from Nat.lt_irrefl 0), if_neg (fun h => by omega)]
  rfl
theorem bgn_yield (n : Int) : bgn (Zw n true) 0 3 = (Sw n true 0 7, 0) := rfl
theorem bgn_sleep (n : Int) : bgn (Zw n true) 0 2 = (Sw n true 0 5, 0) := rfl

def wkI (t : Int) : Int := 1 + wrap64 ((IntKind.u64.wrap t).tmod 7)
theorem wkI_lt (t : Int) : ∃ k : Nat, 0 < k ∧ k < 8 ∧ wkI t = (k : Int) := by
  unfold wkI
  have h1 : 0 ≤ IntKind.u64.wrap t := by simp [IntKind.wrap, IntKind.signed, IntKind.bits]; omega
  obtain ⟨n, hn⟩ := Int.eq_ofNat_of_zero_le h1
  rw [hn]
  have e : (Int.ofNat n).tmod 7 = ((n % 7 : Nat) : Int) := rfl
  have h2 := Nat.mod_lt n (show 0 < 7 by omega)
  simp only [Int.ofNat_eq_natCast] at e ⊢
  rw [e]
  exact ⟨1 + n % 7, by omega, by omega, by unfold wrap64; omega⟩

theorem sstep {w : World} {b : Nat} {n : Int} {h : Bool} {k p : Nat} (hW : Wo w b (Sw n h k p)) (hk : k < 8) (hp : 0 < p) :
    Calls Try.prog 14 #[.pointer (some ⟨b, 0, none⟩), .int .i64 (k : Int)] w fun e w' => e = .returned (.tuple #[.int .i64 (acc n h p).came, .int .i64 0]) ∧ Wo w' b (Sw (acc n h p).now (acc n h p).held k (acc n h p).pc) ∧ FrW b w w' := by
  have := ostep hW hk (show 0 < (if k = k then p else 0) by rw [if_pos rfl]; exact hp)
  rw [wstp_S] at this
  exact this

/-- where a wake stands -/
def WkS (n : Int) (k : Nat) (s : Nat) (y : Int) (d : Wd) : Prop :=
  (y = -1 ∧ s = 0 ∧ d = Sw n true k 1) ∨ (y = -1 ∧ s = 1 ∧ n = 2 ∧ d = Sw 2 true k 3) ∨ (y = 0 ∧ s ≤ 2 ∧ d = Zw 3 true)

set_option maxHeartbeats 800000 in
theorem kept_calls {w : World} {a1 : Option Addr} {n1 k1 : Nat} {rows : List Int} (A1 : NuA w.heap.size w a1 n1 rows) (hn1 : n1 * 8 ≤ 140737488351232) (yl : Bool) :
    Calls Try.prog 5 #[.slice a1 n1 k1, .bool yl] w fun e w' => e = .returned (.bool true) ∧ Fr (fun _ => False) w w' := by
  go_enter Try.func5, Try.ntmps5
  go_wp2_with (first
    | (go_at_call 9; refine (lives_calls _).mono ?_; rintro e w1 ⟨rfl, hF0⟩)
    | (go_at_call 10; refine (onew2 _).mono ?_; rintro e w2 ⟨G, hG0, rfl, hD, hF⟩; have HB : Hid (Calls Try.prog 12 #[.pointer (some ⟨G, 0, none⟩), .int .i64 0, .int .i64 1] w2 fun e w' => e = .returned (.int .i64 0) ∧ Wo w' G (Sw 1 false 0 4) ∧ FrW G w2 w') := obegin hD 0 1)
    | (go_at_call 12; refine (unhide HB).mono ?_; rintro e w3 ⟨rfl, hD3, hF3⟩; have HS : Hid (Calls Try.prog 14 #[.pointer (some ⟨G, 0, none⟩), .int .i64 0] w3 fun e w' => e = .returned (.tuple #[.int .i64 0, .int .i64 0]) ∧ Wo w' G (Sw 2 true 0 0) ∧ FrW G w3 w') := sstep hD3 (k := 0) (by omega) (by omega))
    | (go_at_call 14; refine (unhide HS).mono ?_; rintro e w4 ⟨rfl, hD4, hF4⟩; rw [S_zero] at hD4))
  have hG : w.heap.size ≤ G := by rw [← hG0.out]; exact hF0.size
  have hFr := ((hF0.trans hF (T := fun _ => False) (fun _ _ h => h) (fun _ _ h => h)).wrd hF3 hG).wrd hF4 hG
  clear hG0 hF0 hF hD HB HS hD3 hF3 hF4
  go_loopw [9] (fun i wr => ∃ j : Nat, j ≤ n1 ∧ i = .int .i64 j ∧ Wo wr G (Zw (if j = 0 then 2 else 3) true) ∧ Fr (fun _ => False) w wr) (fun i _ => n1 - (intOf i).toNat)
  case atStart => exact ⟨0, by omega, rfl, hD4, hFr⟩
  case round =>
    clear hD4 hFr
    obtain ⟨j, hj, rfl, hD, hF⟩ := hrel
    by_cases hlt : j < n1
    · obtain ⟨ba, off, t, rfl, hba, hx, ht64, c0w⟩ := A1.num hlt
      have c0 := cell_fr hF (fun h => h) c0w
      have hlt' : (j : Int) < (n1 : Int) := by omega
      obtain ⟨k, hk0, hk8, hk⟩ := wkI_lt t
      have HB := hide (obegin hD (k : Int) 0)
      obtain ⟨n, hn⟩ : ∃ n : Int, n = if j = 0 then 2 else 3 := ⟨_, rfl⟩
      have hn23 : n = 2 ∨ n = 3 := by rw [hn]; split <;> simp
      rw [← hn] at HB
      rw [bgn_wake n true hk0 hk8, ← hk] at HB
      unfold wkI at HB
      have hk2 : 1 + wrap64 ((IntKind.u64.wrap t).tmod 7) = (k : Int) := hk
      have hb0 : 0 ≤ wrap64 ((IntKind.u64.wrap t).tmod 7) := by omega
      have hb7 : wrap64 ((IntKind.u64.wrap t).tmod 7) ≤ 6 := by omega
      have HK2 := hide hk2
      clear hx c0w hn hD hk2
      go_wp2_with (go_at_call 12; refine (unhide HB).mono ?_; rintro e w3 ⟨rfl, hD3, hF3⟩)
      simp only [HK2.out]
      have hFr := hF.wrd hF3 hG
      clear HB hk HK2 hF hF3 c0 hb0 hb7
      obtain ⟨wo, hwo⟩ : ∃ wo, wo = wr := ⟨_, rfl⟩
      subst hwo
      go_loopw [11, 12] (fun y s wr => ∃ (i : Nat) (z : Int) (d : Wd), i ≤ 3 ∧ s = .int .i64 i ∧ y = .int .i64 z ∧ Wo wr G d ∧ WkS n k i z d ∧ Fr (fun _ => False) w wr) (fun _ s _ => 4 - (intOf s).toNat)
      case atStart => exact ⟨0, -1, _, by omega, rfl, rfl, hD3, .inl ⟨rfl, rfl, rfl⟩, hFr⟩
      case round =>
        clear hD3 hFr
        obtain ⟨i, z, d, hi, rfl, rfl, hD, hS, hF⟩ := hrel
        rcases hS with ⟨rfl, rfl, rfl⟩ | ⟨rfl, rfl, rfl, rfl⟩ | ⟨rfl, hi2, rfl⟩
        · have HST := hide (sstep hD hk8 (show 0 < 1 by omega))
          rcases hn23 with rfl | rfl
          · have HT : Hid (Calls Try.prog 14 #[.pointer (some ⟨G, 0, none⟩), .int .i64 (k : Int)] wr fun e w' => e = .returned (.tuple #[.int .i64 (-1), .int .i64 0]) ∧ Wo w' G (Sw 2 true k 3) ∧ FrW G wr w') := HST
            clear HST
            go_wp2_with (go_at_call 14; refine (unhide HT).mono ?_; rintro e w4 ⟨rfl, hD4, hF4⟩)
            go_roundw
            case rel => exact ⟨1, -1, _, by omega, by go_num, rfl, hD4, .inr (.inl ⟨rfl, rfl, rfl, rfl⟩), hF.wrd hF4 hG⟩
            case measure => simp [intOf]
          · have HT : Hid (Calls Try.prog 14 #[.pointer (some ⟨G, 0, none⟩), .int .i64 (k : Int)] wr fun e w' => e = .returned (.tuple #[.int .i64 0, .int .i64 0]) ∧ Wo w' G (Sw 3 true k 0) ∧ FrW G wr w') := HST
            clear HST
            rw [S_zero] at HT
            go_wp2_with (go_at_call 14; refine (unhide HT).mono ?_; rintro e w4 ⟨rfl, hD4, hF4⟩)
            go_roundw
            case rel => exact ⟨1, 0, _, by omega, by go_num, rfl, hD4, .inr (.inr ⟨rfl, by omega, rfl⟩), hF.wrd hF4 hG⟩
            case measure => simp [intOf]
        · have HT : Hid (Calls Try.prog 14 #[.pointer (some ⟨G, 0, none⟩), .int .i64 (k : Int)] wr fun e w' => e = .returned (.tuple #[.int .i64 0, .int .i64 0]) ∧ Wo w' G (Sw 3 true k 0) ∧ FrW G wr w') := sstep hD hk8 (show 0 < 3 by omega)
          rw [S_zero] at HT
          go_wp2_with (go_at_call 14; refine (unhide HT).mono ?_; rintro e w4 ⟨rfl, hD4, hF4⟩)
          go_roundw
          case rel => exact ⟨2, 0, _, by omega, by go_num, rfl, hD4, .inr (.inr ⟨rfl, by omega, rfl⟩), hF.wrd hF4 hG⟩
          case measure => simp [intOf]
        · have hi4 : (i : Int) < 4 := by omega
          go_wp2
          go_roundw
          case rel => exact ⟨j + 1, by omega, by go_num, by rw [if_neg (by omega)]; exact hD, hF⟩
          case measure => simp [intOf]; omega
    · obtain rfl : j = n1 := by omega
      clear hlt hj
      have hD0 := hide hD
      by_cases h0 : j = 0
      · rw [if_pos h0] at hD
        subst h0
        have h0 := hD0
        cases yl with
        | true =>
          have HB : Hid (Calls Try.prog 12 #[.pointer (some ⟨G, 0, none⟩), .int .i64 0, .int .i64 3] wr fun e w' => e = .returned (.int .i64 0) ∧ Wo w' G (Sw 2 true 0 7) ∧ FrW G wr w') := obegin hD 0 3
          have HS : Hid (∀ wx, Wo wx G (Sw 2 true 0 7) → Calls Try.prog 14 #[.pointer (some ⟨G, 0, none⟩), .int .i64 0] wx fun e w' => e = .returned (.tuple #[.int .i64 1, .int .i64 0]) ∧ Wo w' G (Sw 1 false 0 0) ∧ FrW G wx w') := fun wx h => sstep h (k := 0) (by omega) (by omega)
          have HN : Hid (∀ wx, Wo wx G (Sw 1 false 0 0) → Calls Try.prog 16 #[.pointer (some ⟨G, 0, none⟩)] wx fun e w' => e = .returned (.int .i64 1) ∧ wx = w') := fun wx h => now_calls h.is
          have HH : Hid (∀ wx, Wo wx G (Sw 1 false 0 0) → Calls Try.prog 17 #[.pointer (some ⟨G, 0, none⟩)] wx fun e w' => e = .returned (.bool false) ∧ wx = w') := fun wx h => holds_calls h.is
          clear hD hD0 h0
          go_wp2_with fail
          refine (unhide HB).mono ?_
          rintro e w3 ⟨rfl, hD3, hF3⟩
          go_wp2_with fail
          refine (unhide HS _ hD3).mono ?_
          rintro e w4 ⟨rfl, hD4, hF4⟩
          go_wp2_with (first
            | (go_at_call 16; refine (unhide HN _ hD4).mono ?_; rintro e w' ⟨rfl, rfl⟩)
            | (go_at_call 17; refine (unhide HH _ hD4).mono ?_; rintro e w' ⟨rfl, rfl⟩))
          go_ret
          exact ⟨rfl, (hF.wrd hF3 hG).wrd hF4 hG⟩
        | false =>
          have HB : Hid (Calls Try.prog 12 #[.pointer (some ⟨G, 0, none⟩), .int .i64 0, .int .i64 2] wr fun e w' => e = .returned (.int .i64 0) ∧ Wo w' G (Sw 2 true 0 5) ∧ FrW G wr w') := obegin hD 0 2
          have HS : Hid (∀ wx, Wo wx G (Sw 2 true 0 5) → Calls Try.prog 14 #[.pointer (some ⟨G, 0, none⟩), .int .i64 0] wx fun e w' => e = .returned (.tuple #[.int .i64 0, .int .i64 0]) ∧ Wo w' G (Sw 0 false 0 0) ∧ FrW G wx w') := fun wx h => sstep h (k := 0) (by omega) (by omega)
          have HN : Hid (∀ wx, Wo wx G (Sw 0 false 0 0) → Calls Try.prog 16 #[.pointer (some ⟨G, 0, none⟩)] wx fun e w' => e = .returned (.int .i64 0) ∧ wx = w') := fun wx h => now_calls h.is
          have HH : Hid (∀ wx, Wo wx G (Sw 0 false 0 0) → Calls Try.prog 17 #[.pointer (some ⟨G, 0, none⟩)] wx fun e w' => e = .returned (.bool false) ∧ wx = w') := fun wx h => holds_calls h.is
          clear hD hD0 h0
          go_wp2_with fail
          refine (unhide HB).mono ?_
          rintro e w3 ⟨rfl, hD3, hF3⟩
          go_wp2_with fail
          refine (unhide HS _ hD3).mono ?_
          rintro e w4 ⟨rfl, hD4, hF4⟩
          go_wp2_with (first
            | (go_at_call 16; refine (unhide HN _ hD4).mono ?_; rintro e w' ⟨rfl, rfl⟩)
            | (go_at_call 17; refine (unhide HH _ hD4).mono ?_; rintro e w' ⟨rfl, rfl⟩))
          go_ret
          exact ⟨rfl, (hF.wrd hF3 hG).wrd hF4 hG⟩
      · rw [if_neg h0] at hD
        have hz : ((j : Int) == 0) = false := by simp; omega
        cases yl with
        | true =>
          have HB : Hid (Calls Try.prog 12 #[.pointer (some ⟨G, 0, none⟩), .int .i64 0, .int .i64 3] wr fun e w' => e = .returned (.int .i64 0) ∧ Wo w' G (Sw 3 true 0 7) ∧ FrW G wr w') := obegin hD 0 3
          have HS : Hid (∀ wx, Wo wx G (Sw 3 true 0 7) → Calls Try.prog 14 #[.pointer (some ⟨G, 0, none⟩), .int .i64 0] wx fun e w' => e = .returned (.tuple #[.int .i64 1, .int .i64 0]) ∧ Wo w' G (Sw 1 false 0 0) ∧ FrW G wx w') := fun wx h => sstep h (k := 0) (by omega) (by omega)
          have HN : Hid (∀ wx, Wo wx G (Sw 1 false 0 0) → Calls Try.prog 16 #[.pointer (some ⟨G, 0, none⟩)] wx fun e w' => e = .returned (.int .i64 1) ∧ wx = w') := fun wx h => now_calls h.is
          have HH : Hid (∀ wx, Wo wx G (Sw 1 false 0 0) → Calls Try.prog 17 #[.pointer (some ⟨G, 0, none⟩)] wx fun e w' => e = .returned (.bool false) ∧ wx = w') := fun wx h => holds_calls h.is
          clear hD hD0 h0
          go_wp2_with fail
          refine (unhide HB).mono ?_
          rintro e w3 ⟨rfl, hD3, hF3⟩
          go_wp2_with fail
          refine (unhide HS _ hD3).mono ?_
          rintro e w4 ⟨rfl, hD4, hF4⟩
          go_wp2_with (first
            | (go_at_call 16; refine (unhide HN _ hD4).mono ?_; rintro e w' ⟨rfl, rfl⟩)
            | (go_at_call 17; refine (unhide HH _ hD4).mono ?_; rintro e w' ⟨rfl, rfl⟩))
          go_ret
          exact ⟨rfl, (hF.wrd hF3 hG).wrd hF4 hG⟩
        | false =>
          have HB : Hid (Calls Try.prog 12 #[.pointer (some ⟨G, 0, none⟩), .int .i64 0, .int .i64 2] wr fun e w' => e = .returned (.int .i64 0) ∧ Wo w' G (Sw 3 true 0 5) ∧ FrW G wr w') := obegin hD 0 2
          have HS : Hid (∀ wx, Wo wx G (Sw 3 true 0 5) → Calls Try.prog 14 #[.pointer (some ⟨G, 0, none⟩), .int .i64 0] wx fun e w' => e = .returned (.tuple #[.int .i64 (-1), .int .i64 0]) ∧ Wo w' G (Sw 3 true 0 6) ∧ FrW G wx w') := fun wx h => sstep h (k := 0) (by omega) (by omega)
          have HT : Hid (∀ wx, Wo wx G (Sw 3 true 0 6) → Calls Try.prog 14 #[.pointer (some ⟨G, 0, none⟩), .int .i64 0] wx fun e w' => e = .returned (.tuple #[.int .i64 2, .int .i64 0]) ∧ Wo w' G (Sw 2 true 0 0) ∧ FrW G wx w') := fun wx h => sstep h (k := 0) (by omega) (by omega)
          have HN : Hid (∀ wx, Wo wx G (Sw 2 true 0 0) → Calls Try.prog 16 #[.pointer (some ⟨G, 0, none⟩)] wx fun e w' => e = .returned (.int .i64 2) ∧ wx = w') := fun wx h => now_calls h.is
          have HH : Hid (∀ wx, Wo wx G (Sw 2 true 0 0) → Calls Try.prog 17 #[.pointer (some ⟨G, 0, none⟩)] wx fun e w' => e = .returned (.bool true) ∧ wx = w') := fun wx h => holds_calls h.is
          clear hD hD0 h0
          go_wp2_with fail
          refine (unhide HB).mono ?_
          rintro e w3 ⟨rfl, hD3, hF3⟩
          go_wp2_with fail
          refine (unhide HS _ hD3).mono ?_
          rintro e w4 ⟨rfl, hD4, hF4⟩
          go_wp2_with fail
          refine (unhide HT _ hD4).mono ?_
          rintro e w5 ⟨rfl, hD5, hF5⟩
          go_wp2_with (first
            | (go_at_call 16; refine (unhide HN _ hD5).mono ?_; rintro e w' ⟨rfl, rfl⟩)
            | (go_at_call 17; refine (unhide HH _ hD5).mono ?_; rintro e w' ⟨rfl, rfl⟩))
          go_ret
          exact ⟨rfl, ((hF.wrd hF3 hG).wrd hF4 hG).wrd hF5 hG⟩

end Go.Proofs.Ytpchnpdolhogdaa
