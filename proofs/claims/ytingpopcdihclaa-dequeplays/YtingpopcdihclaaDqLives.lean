/-
  A deque that isn't there; the head of all laws of this layer; a thread's number, and how it begins anew; DequeNil.
-/
import Derived.Test.YtingpopcdihclaaDqItems
namespace Go.Proofs.Ytingpopcdihclaa
open Go.RowKit
set_option linter.unusedVariables false
set_option maxRecDepth 8192

set_option maxHeartbeats 400000 in
theorem ntop (w : World) : Calls Try.prog 17 #[.pointer none] w fun e w' => e = .returned (.int .i64 0) ∧ w = w' := by
  go_enter Try.func17, Try.ntmps17
  go_wp2
  go_ret
  exact ⟨rfl, rfl⟩

set_option maxHeartbeats 400000 in
theorem nbot (w : World) : Calls Try.prog 18 #[.pointer none] w fun e w' => e = .returned (.int .i64 0) ∧ w = w' := by
  go_enter Try.func18, Try.ntmps18
  go_wp2
  go_ret
  exact ⟨rfl, rfl⟩

set_option maxHeartbeats 400000 in
theorem nsize (w : World) : Calls Try.prog 12 #[.pointer none] w fun e w' => e = .returned (.int .i64 0) ∧ w = w' := by
  go_enter Try.func12, Try.ntmps12
  go_wp2
  go_ret
  exact ⟨rfl, rfl⟩

set_option maxHeartbeats 400000 in
theorem nbusy (n : Int) (w : World) : Calls Try.prog 19 #[.pointer none, .int .i64 n] w fun e w' => e = .returned (.bool false) ∧ w = w' := by
  go_enter Try.func19, Try.ntmps19
  go_wp2
  go_ret
  exact ⟨rfl, rfl⟩

set_option maxHeartbeats 400000 in
theorem nbegin (n op v : Int) (w : World) : Calls Try.prog 13 #[.pointer none, .int .i64 n, .int .i64 op, .int .i64 v] w fun e w' => e = .returned (.int .i64 1) ∧ w = w' := by
  go_enter Try.func13, Try.ntmps13
  go_wp2
  go_ret
  exact ⟨rfl, rfl⟩

set_option maxHeartbeats 1000000 in
theorem nitems (w : World) : Calls Try.prog 21 #[.pointer none] w fun e w' => e = .returned (.slice none 0 0) ∧ w = w' := by
  go_enter Try.func21, Try.ntmps21
  go_wp2_with (go_at_call 17; refine (ntop _).mono ?_; rintro e w' ⟨rfl, rfl⟩)
  go_loopw [3, 4] (fun l n wr => l = .slice none 0 0 ∧ n = .int .i64 0 ∧ wr = w) (fun _ _ _ => 0)
  case atStart => exact ⟨rfl, rfl, rfl⟩
  case round =>
    obtain ⟨rfl, rfl, rfl⟩ := hrel
    go_wp2_with (go_at_call 18; refine (nbot _).mono ?_; rintro e w' ⟨rfl, rfl⟩)
    go_ret
    exact ⟨rfl, rfl⟩

/-- a push, step by step -/
def dl : Nat → Dq
  | 0 => Dq.new.set 0 ⟨1, 5, 0, 0, false⟩
  | n + 1 => (stp 2 (dl n) 0).1

theorem dl1 : dl 1 = Dq.new.set 0 ⟨2, 5, 0, 0, false⟩ := by
  rw [dl, stp_1 _ _ _ (by rfl)]; simp only [dl, goOn, set_set, set_th, set_bot]; rfl
theorem dl2 : dl 2 = Dq.new.set 0 ⟨3, 5, 0, 0, false⟩ := by
  rw [dl, dl1, stp_2 _ _ _ (by rfl), if_neg (by decide)]; simp only [goOn, set_set, set_th]
theorem dl3 : dl 3 = (Dq.new.lay 0 5).set 0 ⟨4, 5, 0, 0, false⟩ := by
  rw [dl, dl2, stp_3 _ _ _ (by rfl)]; simp only [goOn, set_lay, set_set, set_th]; rfl
theorem dl4 : dl 4 = ((Dq.new.lay 0 5).wbot 1).set 0 Rn.zero := by
  rw [dl, dl3, stp_4 _ _ _ (by rfl)]; simp only [fin, set_wbot, set_set, set_th]; rfl
theorem dl3n (j : Nat) (h : j < 3) : (stp 2 (dl j) 0).2 = Dn.none ∧ 0 < ((dl j).th 0).pc := by
  have : j = 0 ∨ j = 1 ∨ j = 2 := by omega
  rcases this with rfl | rfl | rfl
  · exact ⟨by rw [stp_1 _ _ _ (by rfl)]; rfl, by decide⟩
  · rw [dl1]; exact ⟨by rw [stp_2 _ _ _ (by rfl), if_neg (by decide)]; rfl, by decide⟩
  · rw [dl2]; exact ⟨by rw [stp_3 _ _ _ (by rfl)]; rfl, by decide⟩
theorem dl4n : (stp 2 (dl 3) 0).2 = ⟨true, 0, 5, 0⟩ ∧ 0 < ((dl 3).th 0).pc := by
  rw [dl3]; exact ⟨by rw [stp_4 _ _ _ (by rfl)]; rfl, by decide⟩
theorem dl_inv : ∀ j, j ≤ 3 → ∃ L K, Inv 2 (dl j) L K ∧ (dl j).top ≤ j
  | 0, _ => ⟨[], [], inv_begin (inv_new (by omega)) (by omega) rfl 1 5 (.inl ⟨rfl, .inl rfl⟩), by decide⟩
  | j + 1, h => by
    obtain ⟨L, K, I, ht⟩ := dl_inv j (by omega)
    obtain ⟨L', K', I', _⟩ := inv_step I (k := 0) (by omega) (dl3n j (by omega)).2
    have hs := I.sd (by omega) (by omega) (k := 0) (by omega) (dl3n j (by omega)).2
    exact ⟨L', K', I', by have := stp_top 2 (dl j) hs.pc.1 hs.pc.2; rw [dl]; omega⟩
theorem dl_sd (j : Nat) (h : j ≤ 3) : Sd (dl j) 0 := by
  obtain ⟨L, K, I, ht⟩ := dl_inv j h
  refine I.sd (by omega) (by omega) (by omega) ?_
  have : j < 3 ∨ j = 3 := by omega
  rcases this with h | rfl
  · exact (dl3n j h).2
  · exact dl4n.2

theorem clamp2 : clamp 2 = 2 := by decide

set_option maxHeartbeats 4000000 in
theorem lives_calls (w : World) : Calls Try.prog 9 #[] w fun e w' => e = .returned (.bool true) ∧ Fr (fun _ => False) w w' := by
  obtain ⟨G, hG⟩ : ∃ G, w.heap.size = G := ⟨_, rfl⟩
  have HN := hide (dnew 2 w)
  rw [clamp2, hG] at HN
  have HG := hide hG
  clear hG
  go_enter Try.func9, Try.ntmps9
  go_wp2_with (first
    | (go_at_call 10; refine (unhide HN).mono ?_; rintro e w1 ⟨rfl, hD, hF⟩)
    | (go_at_call 13; refine (begin_ok hD (k := 0) (by omega) 0 5 (by decide) rfl).mono ?_; rintro e w2 ⟨rfl, hD2, hF2⟩))
  go_loopw [2] (fun i wr => ∃ j : Nat, j ≤ 3 ∧ i = .int .i64 j ∧ IsD wr (G + 1) G 2 (dl j) ∧ Fr (fun _ => False) w wr) (fun i _ => 3 - (intOf i).toNat)
  case atStart => exact ⟨0, by omega, rfl, hD2, hF.trans hF2 (fun _ _ h => h) (fun i hi e => by have := unhide HG; omega)⟩
  case round =>
    clear hD hF hD2 hF2
    obtain ⟨j, hj, rfl, hD, hF⟩ := hrel
    by_cases hlt : j < 3
    · obtain ⟨hn, hp⟩ := dl3n j hlt
      have HS := hide (step_busy hD (k := 0) (by omega) (dl_sd j hj))
      rw [hn] at HS
      have hlt' : (j : Int) < 3 := by omega
      go_wp2_with (go_at_call 15; refine (unhide HS).mono ?_; rintro e w2 ⟨rfl, hD2, hF2⟩; simp only [dnV, Dn.none])
      go_roundw
      case rel => exact ⟨j + 1, by omega, by go_num, hD2.al _, (hF.trans hF2 (fun _ _ h => h) (fun i hi e => by have := unhide HG; omega)).alloc _⟩
      case measure => simp [intOf]; omega
    · obtain rfl : j = 3 := by omega
      have HS := hide (step_busy hD (k := 0) (by omega) (dl_sd 3 hj))
      have e4 : (stp 2 (dl 3) 0).1 = ((Dq.new.lay 0 5).wbot 1).set 0 Rn.zero := dl4
      rw [dl4n.1, e4] at HS
      have hlst : ∀ (w1 : World), IsD w1 (G + 1) G 2 (((Dq.new.lay 0 5).wbot 1).set 0 Rn.zero) → Calls Try.prog 21 #[.pointer (some ⟨G + 1, 0, none⟩)] w1 fun e w' => ∃ a c, e = .returned (.slice a 1 c) ∧ Fr (fun _ => False) w1 w' := fun w1 h1 => by
        refine (items_calls h1 (by decide) (by decide) (by decide)).mono ?_
        rintro e w' ⟨v, rfl, hL, hF⟩
        obtain ⟨a, c, rfl, _⟩ := hL.cell
        exact ⟨a, c, rfl, hF⟩
      have HL := hide hlst
      clear hlst
      go_wp2_with (first
        | (go_at_call 15; refine (unhide HS).mono ?_; rintro e w2 ⟨rfl, hD2, hF2⟩; simp only [dnV])
        | (go_at_call 18; refine (dbot (hD2.al _)).mono ?_; rintro e w' ⟨rfl, rfl⟩)
        | (go_at_call 17; refine (dtop (hD2.al _)).mono ?_; rintro e w' ⟨rfl, rfl⟩)
        | (go_at_call 21; refine (unhide HL _ (hD2.al _)).mono ?_; rintro e w3 ⟨a, c, rfl, hF3⟩))
      go_ret
      refine ⟨?_, ((hF.trans hF2 (fun _ _ h => h) (fun i hi e => by have := unhide HG; omega)).alloc _).trans hF3 (fun _ _ h => h) (fun _ _ h => h)⟩
      rfl

end Go.Proofs.Ytingpopcdihclaa
