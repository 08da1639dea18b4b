/-
  HeapDue walked.
-/
import Derived.Test.YtchmbnfalaijhaaHpCnt
namespace Go.Proofs.Ytchmbnfalaijhaa
open Go.RowKit
set_option linter.unusedVariables false
set_option maxRecDepth 100000

def DuA (w0 : World) (b k D : Nat) (now : Int) (w : World) : Prop := ∃ M, Hp w w0.heap.size b k M ∧ Tk M k ∧ M.length = k ∧ cnt M now = D ∧ FrL w0.heap.size w0 w
def DuB (w0 : World) (b n k D : Nat) (now : Int) (w : World) : Prop := ∃ M, Hp w w0.heap.size b n M ∧ Tk M n ∧ M.length + k = n ∧ cnt M now + k = D ∧ FrL w0.heap.size w0 w

set_option maxHeartbeats 8000000 in
theorem due_calls {w : World} {a : Option Addr} {n c : Nat} {l : List Int} (A : NA w.heap.size w a n l) (hn : n ≤ 1048576) (now : Int) :
    Calls Try.prog 6 #[.slice a n c, .int .i64 now] w fun e w' => e = .returned (.bool true) ∧ Fr (fun _ => False) w w' := by
  go_enter Try.func6, Try.ntmps6
  go_wp2_with fail
  refine (lives_calls _).mono ?_
  rintro e w1 ⟨rfl, hF1⟩
  go_wp2_with fail
  refine (gnew _).mono ?_
  rintro e w2 ⟨rfl, hH2, hF2⟩
  have hs1 := hF1.size
  have h0 : DuA w w1.heap.size 0 0 now w2 := ⟨[], hH2.lower hs1, Tk.nil, rfl, rfl, (hF1.trans hF2 (fun _ _ h => h.elim) (fun _ _ h => h.elim))⟩
  generalize w1.heap.size = b at *
  clear hH2 hF2 hF1 hs1
  go_wp2_with fail
  go_loopw [6, 7] (fun d i wr => ∃ (D k : Nat), d = .int .i64 D ∧ i = .int .i64 k ∧ k ≤ n ∧ DuA w b k D now wr) (fun _ i _ => n - (intOf i).toNat)
  case atStart => exact ⟨0, 0, rfl, rfl, by omega, h0⟩
  case round =>
    obtain ⟨D, k, rfl, rfl, hk, M, hH, hT, hlen, hcn, hF⟩ := hrel
    clear h0
    have hsz := hF.size
    have hcl := cnt_le M now
    by_cases hlt : k < n
    · have hlt' : (k : Int) < (n : Int) := by omega
      obtain ⟨bb, off, x, rfl, hbb, hls, hx⟩ := (A.fr hF (fun _ h => h)).num hlt
      have hx2 := fun (w' : World) (hf : FrH w.heap.size wr w') => cell_fr hf (show ¬ (w.heap.size ≤ bb ∧ HK wr bb) from fun h => by omega) hx
      have HPU := hide (gput hH hsz (by omega) x (k : Int))
      have HX := hide hx2
      clear hx2
      by_cases hxn : x ≤ now
      · have hc2 := cnt_yes M now ⟨x, (k : Int) + 1, (k : Int)⟩ hxn
        go_wp2_with (go_at_call 25; refine (unhide HPU).mono ?_; rintro e w4 ⟨rfl, hH4, hF4⟩; have hx4 := unhide HX _ hF4)
        exact ⟨⟨D + 1, k + 1, by go_num, by go_num, by omega, _, hH4, hT.put x _, by simp; omega, by omega, hF.trans hF4.l (fun _ _ h => h) (fun _ _ h => h)⟩, by simp [intOf]; omega⟩
      · have hc2 := cnt_no M now ⟨x, (k : Int) + 1, (k : Int)⟩ hxn
        go_wp2_with (go_at_call 25; refine (unhide HPU).mono ?_; rintro e w4 ⟨rfl, hH4, hF4⟩; have hx4 := unhide HX _ hF4)
        exact ⟨⟨D, k + 1, rfl, by go_num, by omega, _, hH4, hT.put x _, by simp; omega, by omega, hF.trans hF4.l (fun _ _ h => h) (fun _ _ h => h)⟩, by simp [intOf]; omega⟩
    · have hlt' : ¬ (k : Int) < (n : Int) := by omega
      obtain rfl : k = n := by omega
      have h1 : DuB w b k 0 D now wr := ⟨M, hH, hT, by omega, by omega, hF⟩
      have hDk : D ≤ k := by omega
      clear hH hT hF hcl hcn hlen
      go_wp2_with fail
      go_loopw [8] (fun i ws => ∃ (j : Nat), i = .int .i64 j ∧ j ≤ D ∧ DuB w b k j D now ws) (fun i _ => D - (intOf i).toNat)
      case atStart => exact ⟨0, rfl, by omega, h1⟩
      case round =>
        obtain ⟨j, rfl, hj, M, hH, hT, hlen, hcn, hF⟩ := hrel
        clear h1
        by_cases hjl : j < D
        · have hjl' : (j : Int) < (D : Int) := by omega
          have hM0 : M ≠ [] := fun q => by rw [q] at hcn; have : cnt ([] : List (En Int)) now = 0 := rfl; omega
          obtain ⟨e, he⟩ := le_ex M hM0
          have het := cnt_pos he (now := now) (by omega)
          have hng : ¬ e.t > now := by omega
          have hc2 := cnt_del hT.rise he.1 het
          have hl2 := Tk.delLen hT.rise e.k ((hasK_iff _ _).2 ⟨e, he.1, rfl⟩)
          have HPO := hide (gpop_yes hH e he now het)
          clear hM0
          go_wp2_with (go_at_call 29; refine (unhide HPO).mono ?_; rintro e' w4 ⟨rfl, hH4, hF4⟩)
          exact ⟨⟨j + 1, by go_num, by omega, _, hH4, hT.del e.k, by omega, by omega, hF.trans hF4.l (fun _ _ h => h) (fun _ _ h => h)⟩, by simp [intOf]; omega⟩
        · have hjl' : ¬ (j : Int) < (D : Int) := by omega
          obtain rfl : j = D := by omega
          have hc0 : cnt M now = 0 := by omega
          by_cases hM0 : M = []
          · subst hM0
            have HL := hide (glen hH)
            have HN := hide (gnext_none hH)
            have HP := hide (gpop_none hH now)
            obtain rfl : j = k := by simpa using hlen
            clear hjl' hlt' hc0 hcn hlen
            go_wp2_with (first
              | (go_at_call 29; refine (unhide HP).mono ?_; rintro e w4 ⟨rfl, rfl⟩)
              | (go_at_call 31; refine (unhide HN).mono ?_; rintro e w4 ⟨rfl, rfl⟩)
              | (go_at_call 33; refine (unhide HL).mono ?_; rintro e w4 ⟨rfl, rfl⟩))
            go_ret
            exact ⟨by simp, hF.mono (fun i hi h => by omega)⟩
          · obtain ⟨e, he⟩ := le_ex M hM0
            have het := cnt_zero he.1 hc0
            have HL := glen hH
            have hlI : (M.length : Int) = (k : Int) - (j : Int) := by omega
            rw [hlI] at HL
            replace HL := hide HL
            have HN := hide (gnext_some hH e he)
            have HP := hide (gpop_no hH e he now het)
            have hjk : (j : Int) < (k : Int) := by
              have : M.length ≠ 0 := fun q => hM0 (List.eq_nil_of_length_eq_zero q)
              omega
            have hg : e.t > now := het
            clear hlI hM0 hlen hcn hc0
            go_wp2_with (first
              | (go_at_call 29; refine (unhide HP).mono ?_; rintro e w4 ⟨rfl, rfl⟩)
              | (go_at_call 31; refine (unhide HN).mono ?_; rintro e w4 ⟨rfl, rfl⟩)
              | (go_at_call 33; refine (unhide HL).mono ?_; rintro e w4 ⟨rfl, rfl⟩))
            go_ret
            exact ⟨by simp, hF.mono (fun i hi h => by omega)⟩

end Go.Proofs.Ytchmbnfalaijhaa
