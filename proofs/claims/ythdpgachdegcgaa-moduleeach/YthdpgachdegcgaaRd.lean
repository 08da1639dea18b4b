/-
  The reader of package reel: its memory, and what its calls do to it.
-/
import Derived.Test.YthdpgachdegcgaaNums
import Derived.Deep.QuietTactic
import Derived.BigQuiet
import Derived.RegionTactic
import Derived.WalkSpells
namespace Go.Proofs.Ythdpgachdegcgaa
open Go.RowKit
set_option linter.unusedVariables false

/-- the number that bytes begin with, the i-th byte on, n so far: itself, how many bytes it has, the error -/
def rd : List UInt8 → Nat → Nat → Nat × Nat × Nat
  | [], _, _ => (0, 0, 2)
  | b :: r, i, n =>
    if i = 9 ∧ b.toNat > 1 then (0, 0, 4)
    else if b.toNat ≥ 128 then rd r (i + 1) (n + b.toNat % 128 * 2 ^ (7 * i))
    else if b.toNat = 0 ∧ i > 0 then (0, 0, 4)
    else (n + b.toNat % 128 * 2 ^ (7 * i), i + 1, 0)

theorem rd_at (s : ByteArray) (k m : Nat) (h : k < s.size) : rd (s.data.toList.drop k) k m =
    if k = 9 ∧ s[k].toNat > 1 then (0, 0, 4)
    else if s[k].toNat ≥ 128 then rd (s.data.toList.drop (k + 1)) (k + 1) (m + s[k].toNat % 128 * 2 ^ (7 * k))
    else if s[k].toNat = 0 ∧ k > 0 then (0, 0, 4)
    else (m + s[k].toNat % 128 * 2 ^ (7 * k), k + 1, 0) := by
  rw [List.drop_eq_getElem_cons (by simpa using h), rd]
  rfl

theorem ret_rd {p : Nat × Nat × Nat} {x y z : Int} (h : x = p.1) (h2 : y = p.2.1) (h3 : z = p.2.2) :
    Ending.returned (.tuple #[.int .u64 x, .int .i64 y, .int .i64 z]) = Ending.returned (.tuple #[.int .u64 p.1, .int .i64 p.2.1, .int .i64 p.2.2]) := by rw [h, h2, h3]

theorem pow_le (k : Nat) (h : k ≤ 8) : 2 ^ (7 * k) ≤ 2 ^ 56 := Nat.pow_le_pow_right (by omega) (by omega)

/-- no bit is lost -/
theorem fits (m b k : Nat) (hm : m < 2 ^ (7 * k)) (hk : k ≤ 9) (hb : k = 9 → b ≤ 1) : m + b % 128 * 2 ^ (7 * k) < 18446744073709551616 := by
  by_cases h9 : k = 9
  · subst h9
    have := hb rfl
    have h2 : b % 128 ≤ 1 := by omega
    have h3 : b % 128 * 2 ^ (7 * 9) ≤ 1 * 2 ^ (7 * 9) := Nat.mul_le_mul_right _ h2
    omega
  · have hp := pow_le k (by omega)
    have h2 : b % 128 ≤ 127 := by omega
    have h3 : b % 128 * 2 ^ (7 * k) ≤ 127 * 2 ^ 56 := Nat.mul_le_mul h2 hp
    omega

theorem next_fits (m b k : Nat) (hm : m < 2 ^ (7 * k)) : m + b % 128 * 2 ^ (7 * k) < 2 ^ (7 * (k + 1)) := by
  have h2 : b % 128 ≤ 127 := by omega
  have h3 : b % 128 * 2 ^ (7 * k) ≤ 127 * 2 ^ (7 * k) := Nat.mul_le_mul_right _ h2
  have h4 : 2 ^ (7 * (k + 1)) = 128 * 2 ^ (7 * k) := by rw [show 7 * (k + 1) = 7 * k + 7 by omega, Nat.pow_add]; omega
  omega

theorem wrap_id (y : Nat) (hy : y < 18446744073709551616) : IntKind.u64.wrap (y : Int) = (y : Int) := by
  simp [IntKind.wrap, IntKind.bits, IntKind.signed]
  omega

theorem wrap_sh9 (m b : Nat) (h : m + b % 128 * 2 ^ (7 * 9) < 18446744073709551616) :
    IntKind.u64.wrap ((m : Int) + (b : Int) % 128 * 9223372036854775808) = ((m + b % 128 * 2 ^ (7 * 9) : Nat) : Int) := by
  rw [show (m : Int) + (b : Int) % 128 * 9223372036854775808 = ((m + b % 128 * 2 ^ (7 * 9) : Nat) : Int) by omega, wrap_id _ h]

theorem wrap_sh0 (m : Nat) (h : m < 18446744073709551616) : IntKind.u64.wrap ((m : Int) + IntKind.u64.wrap 0) = (m : Int) := by
  rw [show IntKind.u64.wrap 0 = 0 from rfl, Int.add_zero, wrap_id _ h]

theorem wrap_sh (m b k : Nat) (h : m + b % 128 * 2 ^ (7 * k) < 18446744073709551616) :
    IntKind.u64.wrap ((m : Int) + IntKind.u64.wrap ((b : Int) % 128 * 2 ^ (7 * k))) = ((m + b % 128 * 2 ^ (7 * k) : Nat) : Int) := by
  have e : ((b : Int) % 128 * 2 ^ (7 * k)) = ((b % 128 * 2 ^ (7 * k) : Nat) : Int) := by simp
  rw [e]
  generalize b % 128 * 2 ^ (7 * k) = x at *
  have w1 : ∀ y : Nat, y < 18446744073709551616 → IntKind.u64.wrap (y : Int) = (y : Int) := by
    intro y hy
    simp [IntKind.wrap, IntKind.bits, IntKind.signed]
    omega
  rw [w1 x (by omega), show (m : Int) + (x : Int) = ((m + x : Nat) : Int) by omega, w1 _ h]

set_option maxHeartbeats 1000000 in
set_option maxRecDepth 100000 in
theorem firstNum (s : ByteArray) (w : World) (hs : s.size ≤ 9223372036854775807) :
    Calls Try.prog 71 #[.string s] w fun e w' => e = .returned (.tuple #[.int .u64 (rd s.data.toList 0 0).1, .int .i64 (rd s.data.toList 0 0).2.1, .int .i64 (rd s.data.toList 0 0).2.2]) ∧ w = w' := by
  go_enter Try.func71, Try.ntmps71
  go_wp2
  go_loop [5, 10] (fun n i => ∃ (k m : Nat), k ≤ s.size ∧ k ≤ 9 ∧ i = .int .i64 k ∧ n = .int .u64 m ∧ m < 2 ^ (7 * k) ∧ Hid (rd s.data.toList 0 0 = rd (s.data.toList.drop k) k m)) (fun _ i => s.size - (intOf i).toNat)
  case atStart => exact ⟨0, 0, by omega, by omega, rfl, rfl, by simp, rfl⟩
  case round =>
    obtain ⟨k, m, hk, hk9, rfl, rfl, hm, HR⟩ := hrel
    by_cases hlt : k < s.size
    · have hp := rd_at s k m hlt
      have HP : Hid (rd s.data.toList 0 0 = if k = 9 ∧ s[k].toNat > 1 then (0, 0, 4)
          else if s[k].toNat ≥ 128 then rd (s.data.toList.drop (k + 1)) (k + 1) (m + s[k].toNat % 128 * 2 ^ (7 * k))
          else if s[k].toNat = 0 ∧ k > 0 then (0, 0, 4)
          else (m + s[k].toNat % 128 * 2 ^ (7 * k), k + 1, 0)) := HR.out.trans hp
      clear hp HR
      have HF : Hid ((k = 9 → s[k].toNat ≤ 1) → m + s[k].toNat % 128 * 2 ^ (7 * k) < 18446744073709551616) := fits m s[k].toNat k hm hk9
      go_wp2
      case roundEnd =>
           go_round
           case rel =>
             have hc : 128 ≤ s[k].toNat := by omega
             have hq := HP.out
             have hf := HF.out (fun _ => by omega)
             rw [if_neg (by omega), if_pos hc] at hq
             exact ⟨k + 1, _, by omega, by omega, by go_num, by rw [wrap_sh m s[k].toNat k hf], next_fits m s[k].toNat k hm, hq⟩
           case measure => simp [intOf]; omega
      all_goals first
        | (go_ret3
           have hc : k = 9 ∧ s[k].toNat > 1 := ⟨by omega, by omega⟩
           have hq := HP.out
           rw [if_pos hc] at hq
           exact ⟨ret_rd (by rw [hq]; rfl) (by rw [hq]; rfl) (by rw [hq]; rfl), rfl⟩)
        | (go_ret3
           have hc : s[k].toNat = 0 ∧ k > 0 := ⟨by omega, by omega⟩
           have hq := HP.out
           rw [if_neg (by omega), if_neg (by omega), if_pos hc] at hq
           exact ⟨ret_rd (by rw [hq]; rfl) (by rw [hq]; rfl) (by rw [hq]; rfl), rfl⟩)
        | (go_ret3
           have hc : s[k].toNat < 128 := by omega
           have hq := HP.out
           have hf := HF.out (fun _ => by omega)
           rw [if_neg (by omega), if_neg (by omega), if_neg (by omega)] at hq
           refine ⟨ret_rd ?_ (by rw [hq]; first | rfl | (show _ = _; omega)) (by rw [hq]; rfl), rfl⟩
           rw [hq]
           first
             | exact wrap_sh m s[k].toNat k hf
             | (have h0 : s[k].toNat = 0 := by omega
                rw [h0] at hf ⊢
                simp only [Nat.zero_mod, Nat.zero_mul, Nat.add_zero] at hf ⊢
                exact wrap_sh0 m hf))
        | (go_ret3
           have h9 : k = 9 := by omega
           subst h9
           have hq := HP.out
           have hf := HF.out (fun _ => by omega)
           rw [if_neg (by omega), if_neg (by omega), if_neg (by omega)] at hq
           exact ⟨ret_rd (by rw [hq]; exact wrap_sh9 m s[9].toNat hf) (by rw [hq]; rfl) (by rw [hq]; rfl), rfl⟩)
    · have HE : Hid (rd s.data.toList 0 0 = (0, 0, 2)) := by
        show _ = _
        rw [HR.out, List.drop_of_length_le (by simp; omega), rd]
      clear HR
      go_wp2
      go_ret3
      exact ⟨ret_rd (by rw [HE.out]; rfl) (by rw [HE.out]; rfl) (by rw [HE.out]; rfl), rfl⟩
end Go.Proofs.Ythdpgachdegcgaa
