/-
  InstrNames walked.
-/
import Derived.Test.YtemkmaegjjpkjaaDoorInLives
namespace Go.Proofs.YtemkmaegjjpkjaaDoor
open Go.RowKit
set_option linter.unusedVariables false

theorem ba_empty {l : List UInt8} (h : l = []) : (ba l).toList.isEmpty = true := by rw [ba_toList, h]; rfl
theorem ba_full {l : List UInt8} (h : l ≠ []) : (ba l).toList.isEmpty = false := by rw [ba_toList]; simpa using h
theorem ba_same {l : List UInt8} {s : ByteArray} (h : l = s.data.toList) : ((ba l).toList == s.toList) = true := by rw [ba_toList, ByteArray.toList_eq, h]; simp
theorem ba_eq {l m : List UInt8} (h : l = m) : ((ba l).toList == (ba m).toList) = true := by rw [h]; simp
theorem ba_ne {l m : List UInt8} (h : l ≠ m) : ((ba l).toList == (ba m).toList) = false := by rw [ba_toList, ba_toList]; simpa using h

set_option maxHeartbeats 2000000 in
theorem inames_law (a b : Int) (s : ByteArray) (w : World) (h : Tab w) :
    Calls Tryd.prog 7 #[.int .i64 a, .int .i64 b, .string s] w fun e w' => e = .returned (.bool true) ∧ Fr (fun _ => False) w w' := by
  cases ha : isOpB a
  · have h1 := ba_empty ((nameN_nil a).2 ha)
    have h2 : a < 0 ∨ (¬ a < 0 ∧ 26 < a) := by have := (isOpB_no a).1 ha; omega
    clear ha
    rcases parseN_back s.data.toList with hs | ⟨op, ho, hs, hn⟩
    · have HP := hide hs
      clear hs
      rcases h2 with h2 | ⟨h2, h3⟩
      all_goals
        go_enter Tryd.func7, Tryd.ntmps7
        go_wp2_with (first
          | (go_at_call 9; refine (lives_calls _ h).mono ?_; rintro e w1 ⟨rfl, hf1⟩; have hT := h.up hf1)
          | (go_at_call 16; refine (name_calls _ _ hT).mono ?_; rintro e w' ⟨rfl, rfl⟩)
          | (go_at_call 10; refine (parse_calls _ _ hT).mono ?_; rw [unhide HP]; rintro e w' ⟨rfl, rfl⟩))
        go_ret
        exact ⟨rfl, hf1⟩
    · have HP := hide hs
      have hq := ba_same hn
      clear hs ho hn
      rcases h2 with h2 | ⟨h2, h3⟩
      all_goals
        go_enter Tryd.func7, Tryd.ntmps7
        go_wp2_with (first
          | (go_at_call 9; refine (lives_calls _ h).mono ?_; rintro e w1 ⟨rfl, hf1⟩; have hT := h.up hf1)
          | (go_at_call 16; refine (name_calls _ _ hT).mono ?_; rintro e w' ⟨rfl, rfl⟩)
          | (go_at_call 10; refine (parse_calls _ _ hT).mono ?_; rw [unhide HP]; rintro e w' ⟨rfl, rfl⟩))
        go_ret
        exact ⟨rfl, hf1⟩
  · have h1 : (ba (nameN a)).toList.isEmpty = false := ba_full (fun e => by rw [(nameN_nil a).1 e] at ha; cases ha)
    obtain ⟨h2, h3⟩ := (isOpB_iff a).1 ha
    have hpa : parseN (ba (nameN a)).data.toList = (a, true) := by rw [ba_list]; exact parseN_name ha
    have HPA := hide hpa
    have h2' : ¬ a < 0 := by omega
    have h3' : ¬ 26 < a := by omega
    clear hpa
    have hab : (nameN a = nameN b ∧ a = b) ∨ nameN a ≠ nameN b := by
      by_cases e : nameN a = nameN b
      · exact .inl ⟨e, nameN_one ha e⟩
      · exact .inr e
    have hab : ((((ba (nameN a)).toList == (ba (nameN b)).toList) = true) ∧ (a != b) = false) ∨ ((ba (nameN a)).toList == (ba (nameN b)).toList) = false := by
      rcases hab with ⟨e, rfl⟩ | e
      · exact .inl ⟨ba_eq e, by simp⟩
      · exact .inr (ba_ne e)
    rcases hab with ⟨hx, hne⟩ | hx
    all_goals
      clear ha
      rcases parseN_back s.data.toList with hs | ⟨op, ho, hs, hn⟩
      · have HP := hide hs
        clear hs
        go_enter Tryd.func7, Tryd.ntmps7
        go_wp2_with (first
          | (go_at_call 9; refine (lives_calls _ h).mono ?_; rintro e w1 ⟨rfl, hf1⟩; have hT := h.up hf1)
          | (go_at_call 16; refine (name_calls _ _ hT).mono ?_; rintro e w' ⟨rfl, rfl⟩)
          | (go_at_call 10; refine (parse_calls _ _ hT).mono ?_; (first | rw [unhide HPA] | rw [unhide HP]); rintro e w' ⟨rfl, rfl⟩))
        go_ret
        exact ⟨rfl, hf1⟩
      · have HP := hide hs
        have hq := ba_same hn
        clear hs ho hn
        go_enter Tryd.func7, Tryd.ntmps7
        go_wp2_with (first
          | (go_at_call 9; refine (lives_calls _ h).mono ?_; rintro e w1 ⟨rfl, hf1⟩; have hT := h.up hf1)
          | (go_at_call 16; refine (name_calls _ _ hT).mono ?_; rintro e w' ⟨rfl, rfl⟩)
          | (go_at_call 10; refine (parse_calls _ _ hT).mono ?_; (first | rw [unhide HPA] | rw [unhide HP]); rintro e w' ⟨rfl, rfl⟩))
        go_ret
        exact ⟨rfl, hf1⟩

end Go.Proofs.YtemkmaegjjpkjaaDoor
