/-
  The order of a heap's things: cmp's comparisons, cmp.Or, order.
-/
import Derived.Test.YtijiackjlgpgpaaProg
import Derived.Test.YtijiackjlgpgpaaKit
import Derived.Deep.QuietTactic
import Derived.BigQuiet
import Derived.RegionTactic
import Derived.Deep.DeepFit
import Derived.Deep.RegionWith
import Derived.Deep.RegionHeld3
import Derived.Deep.Cut
namespace Go.Proofs.Ytijiackjlgpgpaa
open Go.RowKit
set_option linter.unusedVariables false
set_option maxRecDepth 8192

def cmpI (a b : Int) : Int := if a < b then -1 else if b < a then 1 else 0
def orI (a b : Int) : Int := if a = 0 then b else a

/-- how a thing of tick t and ticket k stands to one of tick u and ticket m -/
def ordI (t k u m : Int) : Int := orI (cmpI t u) (cmpI k m)

theorem nan64 (a : Int) (w : World) : Calls Try.prog 65 #[.int .i64 a] w fun e w' => e = .returned (.bool false) ∧ w = w' := by
  go_enter Try.func65, Try.ntmps65
  go_wp2
  go_ret
  exact ⟨rfl, rfl⟩

theorem nanI (a : Int) (w : World) : Calls Try.prog 66 #[.int .i64 a] w fun e w' => e = .returned (.bool false) ∧ w = w' := by
  go_enter Try.func66, Try.ntmps66
  go_wp2
  go_ret
  exact ⟨rfl, rfl⟩

theorem cmp64 (a b : Int) (w : World) : Calls Try.prog 53 #[.int .i64 a, .int .i64 b] w fun e w' => e = .returned (.int .i64 (cmpI a b)) ∧ w = w' := by
  rcases Int.lt_trichotomy a b with h | h | h
  · have hc : cmpI a b = -1 := by unfold cmpI; rw [if_pos h]
    rw [hc]
    go_enter Try.func53, Try.ntmps53
    go_wp2_with (go_at_call 65; refine (nan64 _ _).mono ?_; rintro e w' ⟨rfl, rfl⟩)
    go_ret
    exact ⟨rfl, rfl⟩
  · have hc : cmpI a b = 0 := by unfold cmpI; rw [if_neg (by omega), if_neg (by omega)]
    rw [hc]
    subst h
    go_enter Try.func53, Try.ntmps53
    go_wp2_with (go_at_call 65; refine (nan64 _ _).mono ?_; rintro e w' ⟨rfl, rfl⟩)
    go_ret
    exact ⟨rfl, rfl⟩
  · have hc : cmpI a b = 1 := by unfold cmpI; rw [if_neg (by omega), if_pos h]
    have hn : ¬ a < b := by omega
    rw [hc]
    go_enter Try.func53, Try.ntmps53
    go_wp2_with (go_at_call 65; refine (nan64 _ _).mono ?_; rintro e w' ⟨rfl, rfl⟩)
    go_ret
    exact ⟨rfl, rfl⟩

theorem cmpInt (a b : Int) (w : World) : Calls Try.prog 54 #[.int .i64 a, .int .i64 b] w fun e w' => e = .returned (.int .i64 (cmpI a b)) ∧ w = w' := by
  rcases Int.lt_trichotomy a b with h | h | h
  · have hc : cmpI a b = -1 := by unfold cmpI; rw [if_pos h]
    rw [hc]
    go_enter Try.func54, Try.ntmps54
    go_wp2_with (go_at_call 66; refine (nanI _ _).mono ?_; rintro e w' ⟨rfl, rfl⟩)
    go_ret
    exact ⟨rfl, rfl⟩
  · have hc : cmpI a b = 0 := by unfold cmpI; rw [if_neg (by omega), if_neg (by omega)]
    rw [hc]
    subst h
    go_enter Try.func54, Try.ntmps54
    go_wp2_with (go_at_call 66; refine (nanI _ _).mono ?_; rintro e w' ⟨rfl, rfl⟩)
    go_ret
    exact ⟨rfl, rfl⟩
  · have hc : cmpI a b = 1 := by unfold cmpI; rw [if_neg (by omega), if_pos h]
    have hn : ¬ a < b := by omega
    rw [hc]
    go_enter Try.func54, Try.ntmps54
    go_wp2_with (go_at_call 66; refine (nanI _ _).mono ?_; rintro e w' ⟨rfl, rfl⟩)
    go_ret
    exact ⟨rfl, rfl⟩

theorem or_calls (a b : Int) (q : Nat) (w : World) (c0 : w.cell? ⟨q, 0, none⟩ = some (.int .i64 a)) (c1 : w.cell? ⟨q, 1, none⟩ = some (.int .i64 b)) :
    Calls Try.prog 52 #[.slice (some ⟨q, 0, none⟩) 2 2] w fun e w' => e = .returned (.int .i64 (orI a b)) ∧ w = w' := by
  by_cases ha : a = 0
  · by_cases hb : b = 0
    · subst ha hb
      go_enter Try.func52, Try.ntmps52
      go_wp2
      go_loop [8] (fun i => ∃ k : Nat, k ≤ 2 ∧ i = .int .i64 k) (fun i => 2 - (intOf i).toNat)
      case atStart => exact ⟨0, by omega, rfl⟩
      case round =>
        obtain ⟨k, hk, rfl⟩ := hrel
        by_cases hlt : k < 2
        · have ck : w.cell? ⟨q, k, none⟩ = some (.int .i64 0) := by
            rcases (show k = 0 ∨ k = 1 by omega) with rfl | rfl
            · exact c0
            · exact c1
          go_wp2
          go_round
          case rel => exact ⟨k + 1, by omega, by go_num⟩
          case measure => simp [intOf]; omega
        · go_wp2
          go_ret
          exact ⟨rfl, rfl⟩
    · subst ha
      have hb' : (b == 0) = false := by simpa using hb
      go_enter Try.func52, Try.ntmps52
      go_wp2
      go_loop [8] (fun i => ∃ k : Nat, k ≤ 1 ∧ i = .int .i64 k) (fun i => 2 - (intOf i).toNat)
      case atStart => exact ⟨0, by omega, rfl⟩
      case round =>
        obtain ⟨k, hk, rfl⟩ := hrel
        rcases (show k = 0 ∨ k = 1 by omega) with rfl | rfl
        · go_wp2
          go_round
          case rel => exact ⟨1, by omega, by go_num⟩
          case measure => simp [intOf]
        · go_wp2
          go_ret
          exact ⟨by simp [orI], rfl⟩
  · have ha' : (a == 0) = false := by simpa using ha
    go_enter Try.func52, Try.ntmps52
    go_wp2
    go_loop [8] (fun i => i = .int .i64 0) (fun i => 0)
    case atStart => rfl
    case round =>
      subst hrel
      go_wp2
      go_ret
      exact ⟨by simp [orI, ha], rfl⟩

/-- what every world of order's statement has: the two boxes, and nothing old has turned -/
structure OG (w0 : World) (q : Nat) (t k u m : Int) (w : World) : Prop where
  b0 : ∃ x, w.heap[q]? = some (.cells #[.int .i64 t, .int .i64 k, x] 65 (0, 0))
  b1 : ∃ y, w.heap[q + 1]? = some (.cells #[.int .i64 u, .int .i64 m, y] 65 (0, 0))
  fr : Fr (fun _ => False) w0 w

theorem OG.step {w0 w w' : World} {q : Nat} {t k u m : Int} (hf : Fr (fun _ => False) w w') (h : OG w0 q t k u m w) : OG w0 q t k u m w' := by
  obtain ⟨⟨x, h0⟩, ⟨y, h1⟩, h2⟩ := h
  exact ⟨⟨x, hf.blk h0 (fun h => h)⟩, ⟨y, hf.blk h1 (fun h => h)⟩, h2.trans hf (fun _ _ h => h) (fun _ _ h => h)⟩

theorem OG.all {w0 w : World} {q : Nat} {t k u m : Int} (h : OG w0 q t k u m w) : w.cell? ⟨q, 0, none⟩ = some (.int .i64 t) ∧ w.cell? ⟨q, 1, none⟩ = some (.int .i64 k) ∧ w.cell? ⟨q + 1, 0, none⟩ = some (.int .i64 u) ∧ w.cell? ⟨q + 1, 1, none⟩ = some (.int .i64 m) ∧ OG w0 q t k u m w := by
  obtain ⟨⟨x, h0⟩, ⟨y, h1⟩, h2⟩ := h
  exact ⟨cell_at h0 0, cell_at h0 1, cell_at h1 0, cell_at h1 1, ⟨⟨x, h0⟩, ⟨y, h1⟩, h2⟩⟩

set_option maxHeartbeats 4000000 in
theorem order_calls (t k x u m y : Int) (w : World) :
    Calls Try.prog 48 #[.agg #[.int .i64 t, .int .i64 k, .int .i64 x], .agg #[.int .i64 u, .int .i64 m, .int .i64 y]] w fun e w' => e = .returned (.int .i64 (ordI t k u m)) ∧ Fr (fun _ => False) w w' := by
  have hS : OG w w.heap.size t k u m ((w.alloc (.cells #[.int .i64 t, .int .i64 k, .int .i64 x] 65)).alloc (.cells #[.int .i64 u, .int .i64 m, .int .i64 y] 65)) :=
    ⟨⟨_, blk_alloc (blk_new w _)⟩, ⟨_, by have := blk_new (w.alloc (.cells #[.int .i64 t, .int .i64 k, .int .i64 x] 65)) (.cells #[.int .i64 u, .int .i64 m, .int .i64 y] 65); simpa using this⟩, ((Fr.refl _ w).alloc _).alloc _⟩
  go_enter Try.func48, Try.ntmps48
  go_upto_region 1 with fail
  generalize ((w.alloc (.cells #[.int .i64 t, .int .i64 k, .int .i64 x] 65)).alloc (.cells #[.int .i64 u, .int .i64 m, .int .i64 y] 65)) = wa at *
  generalize w.heap.size = q at *
  obtain ⟨c0, c1, d0, d1, hG⟩ := hS.all
  go_region_held3 (fun w' => w'.cell? ⟨q, 0, none⟩ = some (.int .i64 t) ∧ w'.cell? ⟨q, 1, none⟩ = some (.int .i64 k) ∧ w'.cell? ⟨q + 1, 0, none⟩ = some (.int .i64 u) ∧ w'.cell? ⟨q + 1, 1, none⟩ = some (.int .i64 m) ∧ OG w q t k u m w')
    (first | exact OG.all (by assumption) | exact OG.all (OG.step ((Fr.refl _ _).drew) (by assumption)) | exact OG.all (OG.step (((Fr.refl _ _).alloc _).drew) (by assumption)))
    (first
    | (go_at_call 53; refine (cmp64 _ _ _).mono ?_; rintro e w' ⟨rfl, rfl⟩)
    | (go_at_call 54; refine (cmpInt _ _ _).mono ?_; rintro e w' ⟨rfl, rfl⟩)
    | (go_at_call 52; refine (or_calls _ _ _ _ (cell_at (blk_new _ _) 0) (cell_at (blk_new _ _) 1)).mono ?_; rintro e w' ⟨rfl, rfl⟩))
  all_goals
    go_wp2
    go_ret
    exact ⟨rfl, (hS.step (((Fr.refl _ _).alloc _).drew)).fr⟩

end Go.Proofs.Ytijiackjlgpgpaa
