/-
  Both deques side by side: a Begin and a Step of any thread.
-/
import Derived.Test.YtingpopcdihclaaDrNew
import Derived.Test.YtingpopcdihclaaDrItems
import Derived.Test.YtingpopcdihclaaDqFifo
namespace Go.Proofs.Ytingpopcdihclaa
open Go.RowKit
set_option linter.unusedVariables false
set_option maxRecDepth 8192

theorem fb_of {k : Nat} {op : Int} (hp : 0 < firstP k op) : (k = 0 ∧ (firstP k op = 1 ∨ firstP k op = 5)) ∨ (0 < k ∧ firstP k op = 11) := by
  rcases firstP_cases hp with ⟨rfl, rfl⟩ | ⟨rfl, rfl⟩ | ⟨h0, rfl⟩
  · simp [firstP]
  · simp [firstP]
  · right; simp [firstP, h0, show ¬ k = 0 by omega]

/-- a Begin of both -/
theorem begin_both {S : Nat} {d : Dq} {q : Mq} {L K : List Int} (b g b2 g2 h2 : Nat) (R : Rel d q) (I : Inv S d L K) (n op v : Int) :
    ∃ d' er, (∀ w, IsD w b g S d → Calls Try.prog 13 #[.pointer (some ⟨b, 0, none⟩), .int .i64 n, .int .i64 op, .int .i64 v] w fun e w' => e = .returned (.int .i64 er) ∧ IsD w' b g S d' ∧ FrD b g w w') ∧
      (∀ w, IsM w b2 g2 h2 S q → Calls Try.prog 14 #[.pointer (some ⟨b2, 0, none⟩), .int .i64 n, .int .i64 op, .int .i64 v] w fun e w' => ∃ q', e = .returned (.int .i64 er) ∧ IsM w' b2 g2 h2 S q' ∧ Rel d' q' ∧ FrM b2 g2 h2 w w') ∧
      Inv S d' L K ∧ d'.top = d.top := by
  by_cases hn : 0 ≤ n ∧ n < 8
  · obtain ⟨k, rfl⟩ : ∃ k : Nat, n = (k : Int) := ⟨n.toNat, by omega⟩
    have hk : k < 8 := by omega
    rcases Nat.eq_zero_or_pos (firstP k op) with hp | hp
    · exact ⟨d, 1, fun w h => (begin_op h hk op v hp).mono fun e w' ⟨h1, h3⟩ => ⟨h1, h3 ▸ h, h3 ▸ Fr.refl _ _⟩,
        fun w m => (mbegin_op m hk op v hp).mono fun e w' ⟨h1, h3⟩ => ⟨q, h1, h3 ▸ m, R, h3 ▸ Fr.refl _ _⟩, I, rfl⟩
    · have hon := R.on hk
      rcases Nat.eq_zero_or_pos (d.th k).pc with hb | hb
      · rw [hb] at hon
        exact ⟨_, 0, fun w h => begin_ok h hk op v hp hb,
          fun w m => (mbegin_ok m hk op v hp hon).mono fun e w' ⟨h1, h3, h4⟩ => ⟨_, h1, h3, R.beg hp v, h4⟩, inv_begin I hk hb _ v (fb_of hp), rfl⟩
      · have hon1 : (q.th k).on = true := by rw [hon]; simpa using hb
        exact ⟨d, 14, fun w h => (begin_busy h hk op v hp hb).mono fun e w' ⟨h1, h3⟩ => ⟨h1, h3 ▸ h, h3 ▸ Fr.refl _ _⟩,
          fun w m => (mbegin_busy m hk op v hp hon1).mono fun e w' ⟨h1, h3⟩ => ⟨q, h1, h3 ▸ m, R, h3 ▸ Fr.refl _ _⟩, I, rfl⟩
  · exact ⟨d, 1, fun w h => (begin_out h hn op v).mono fun e w' ⟨h1, h3⟩ => ⟨h1, h3 ▸ h, h3 ▸ Fr.refl _ _⟩,
      fun w m => (mbegin_out m hn op v).mono fun e w' ⟨h1, h3⟩ => ⟨q, h1, h3 ▸ m, R, h3 ▸ Fr.refl _ _⟩, I, rfl⟩

/-- a Step of both -/
theorem step_both {S : Nat} {d : Dq} {q : Mq} {L K : List Int} (b g b2 g2 h2 : Nat) (R : Rel d q) (I : Inv S d L K) (hS : S ≤ 64) (hN : d.top ≤ 576460752303423488) (n : Int) :
    ∃ d' y er L' K', (∀ w, IsD w b g S d → Calls Try.prog 15 #[.pointer (some ⟨b, 0, none⟩), .int .i64 n] w fun e w' => e = .returned (.tuple #[dnV y, .int .i64 er]) ∧ IsD w' b g S d' ∧ FrD b g w w') ∧
      (∀ w, IsM w b2 g2 h2 S q → Calls Try.prog 16 #[.pointer (some ⟨b2, 0, none⟩), .int .i64 n] w fun e w' => ∃ q', e = .returned (.tuple #[dnV y, .int .i64 er]) ∧ IsM w' b2 g2 h2 S q' ∧ Rel d' q' ∧ FrM b2 g2 h2 w w') ∧
      Inv S d' L' K' ∧ d'.top ≤ d.top + 1 := by
  by_cases hn : 0 ≤ n ∧ n < 8
  · obtain ⟨k, rfl⟩ : ∃ k : Nat, n = (k : Int) := ⟨n.toNat, by omega⟩
    have hk : k < 8 := by omega
    have hon := R.on hk
    rcases Nat.eq_zero_or_pos (d.th k).pc with hb | hb
    · rw [hb] at hon
      exact ⟨d, Dn.none, 13, L, K, fun w h => step_idle h hk hb, fun w m => (mstep_idle m hk hon).mono fun e w' ⟨h1, h3, h4⟩ => ⟨q, h1, h3, R, h4⟩, I, by omega⟩
    · have hs := I.sd hS hN hk hb
      obtain ⟨L', K', I', _⟩ := inv_step I hk hb
      exact ⟨_, _, 0, L', K', fun w h => step_busy h hk hs, fun w m => mstep_busy m R I hk hs, I', stp_top S d hs.pc.1 hs.pc.2⟩
  · exact ⟨d, Dn.none, 1, L, K, fun w h => step_out h hn, fun w m => (mstep_out m hn).mono fun e w' ⟨h1, h3, h4⟩ => ⟨q, h1, h3, R, h4⟩, I, by omega⟩

theorem items_same {S : Nat} {d : Dq} {q : Mq} (R : Rel d q) : itemsM S q = itemsD S d := by
  unfold itemsM itemsD; rw [R.top, R.bot, R.pl]

end Go.Proofs.Ytingpopcdihclaa
