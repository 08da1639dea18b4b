/-
  Is there too much of something: longTable, longActor, longModule, and slices.ContainsFunc, slices.IndexFunc as they call them.
-/
import Derived.Test.YthdpgachdegcgaaMoArr
namespace Go.Proofs.Ythdpgachdegcgaa
open Go.RowKit
set_option linter.unusedVariables false
set_option maxRecDepth 8192

abbrev Q0 (w w' : World) : Prop := Fr (fun _ => False) w w'
theorem Q0.then {a b c : World} (h : Q0 a b) (k : Q0 b c) : Q0 a c := h.trans k (fun _ _ h => h) (fun _ _ h => h)
theorem Fr.then {a b c : World} (h : Fr (fun _ => False) a b) (k : Fr (fun _ => False) b c) : Fr (fun _ => False) a c := h.trans k (fun _ _ h => h) (fun _ _ h => h)
theorem q0_no {lo hi : Nat} : ∀ k, (fun _ : Nat => False) k → k < lo ∨ hi ≤ k := fun _ h => h.elim
theorem mret_bool {a b : Bool} (h : a = b) : Ending.returned (.bool a) = .returned (.bool b) := by rw [h]

abbrev fnV (k : Nat) : Value := .func (.func k) #[] #[]
abbrev tbV (a : Option Addr) (n c : Nat) (tm : Int) : Value := .agg #[.slice a n c, .int .i64 tm]

/-- the first place that has it -/
def fstB {α : Type} (f : α → Bool) (l : List α) : Int := match l.findIdx? f with | some i => (i : Int) | none => -1
theorem fstB_some {α : Type} {f : α → Bool} {l : List α} {k : Nat} {x : α} (hx : l[k]? = some x) (hf : f x = true) (hb : ∀ j y, j < k → l[j]? = some y → f y = false) : fstB f l = (k : Int) := by
  obtain ⟨hk, rfl⟩ := List.getElem?_eq_some_iff.1 hx
  have : l.findIdx? f = some k := List.findIdx?_eq_some_iff_getElem.2 ⟨hk, hf, fun j hj => by simp [hb j _ hj (List.getElem?_eq_getElem (by omega))]⟩
  unfold fstB; rw [this]
theorem fstB_none {α : Type} {f : α → Bool} {l : List α} (hb : ∀ (j : Nat) (y : α), l[j]? = some y → f y = false) : fstB f l = -1 := by
  have : l.findIdx? f = none := List.findIdx?_eq_none_iff.2 fun x hx => by obtain ⟨i, hi, rfl⟩ := List.getElem_of_mem hx; exact hb i _ (List.getElem?_eq_getElem hi)
  unfold fstB; rw [this]
theorem fstB_any {α : Type} (f : α → Bool) (l : List α) : decide (fstB f l ≥ 0) = l.any f := by
  unfold fstB
  cases h : l.findIdx? f with
  | none =>
    have := List.findIdx?_eq_none_iff.1 h
    have h2 : l.any f = false := List.any_eq_false.2 fun x hx => by simp [this x hx]
    rw [h2]; rfl
  | some i =>
    obtain ⟨hi, hf, _⟩ := List.findIdx?_eq_some_iff_getElem.1 h
    have h2 : l.any f = true := List.any_eq_true.2 ⟨_, List.getElem_mem hi, hf⟩
    rw [h2]; simp

set_option maxHeartbeats 400000 in
theorem longTable_calls (a : Option Addr) (n c : Nat) (tm : Int) (w : World) (hn : n ≤ 9223372036854775807) :
    Calls Try.prog 77 #[tbV a n c tm] w fun e w' => e = .returned (.bool (decide (n > 8))) ∧ Q0 w w' := by
  by_cases h : (n : Int) > 8
  all_goals
    go_enter Try.func77, Try.ntmps77
    go_wp2
    go_ret
    exact ⟨mret_bool (by simp; omega), (Fr.refl _ w).alloc _⟩

set_option maxHeartbeats 1000000 in
theorem idxTable_calls {lo hi : Nat} {w : World} {a : Option Addr} {n : Nat} {l : List (List (Int × Int) × Int)} (h : TbA lo hi w a n l) (c : Nat) :
    Calls Try.prog 94 #[.slice a n c, fnV 77] w fun e w' => e = .returned (.int .i64 (fstB longT l)) ∧ Q0 w w' := by
  have hs := h.small
  go_enter Try.func94, Try.ntmps94
  go_wp2
  go_loopw [8] (fun ix w' => ∃ k : Nat, k ≤ n ∧ ix = .int .i64 k ∧ (∀ j y, j < k → l[j]? = some y → longT y = false) ∧ Q0 w w') (fun ix w' => n - (intOf ix).toNat)
  case atStart => exact ⟨0, Nat.zero_le _, rfl, fun j y hj => absurd hj (by omega), Fr.refl _ _⟩
  case round =>
    obtain ⟨k, hk, rfl, hall, hF⟩ := hrel
    have Hall := hide hall
    clear hall
    by_cases hlt : k < n
    · obtain ⟨b, off, a', n', c', cl, tm, rfl, _, _, hx, hp, _, c0, c1⟩ := TbA.get (TbA.fr h hF q0_no) hlt
      have hps := hp.small
      have hpl := hp.len
      have HX := hide hx
      have HL : Hid (longT (cl, tm) = decide (n' > 8)) := hide (by unfold longT; rw [← hpl])
      clear hx hpl hp
      by_cases hn : n' > 8
      · have hd := hide (decide_eq_true hn)
        go_wp2_with (go_at_call 77; refine (longTable_calls _ _ _ _ _ hps).mono ?_; rw [unhide hd]; rintro e w' ⟨rfl, hF2⟩)
        go_ret
        exact ⟨ret_int (fstB_some (unhide HX) (by rw [unhide HL]; exact unhide hd) (unhide Hall)).symm, hF.then hF2⟩
      · have hd := hide (decide_eq_false hn)
        go_wp2_with (go_at_call 77; refine (longTable_calls _ _ _ _ _ hps).mono ?_; rw [unhide hd]; rintro e w' ⟨rfl, hF2⟩)
        go_roundw
        case rel =>
          refine ⟨k + 1, by omega, by go_num, fun j y hj hy => ?_, hF.then hF2⟩
          rcases Nat.lt_or_ge j k with h' | h'
          · exact unhide Hall j y h' hy
          · obtain rfl : j = k := by omega
            rw [unhide HX] at hy; cases hy; rw [unhide HL]; exact unhide hd
        case measure => simp [intOf]; omega
    · have HE : Hid (fstB longT l = -1) := hide (fstB_none fun j y hy => unhide Hall j y (by have := (List.getElem?_eq_some_iff.1 hy).1; have := h.len; omega) hy)
      go_wp2
      go_ret
      exact ⟨ret_int (unhide HE).symm, hF⟩

set_option maxHeartbeats 400000 in
theorem hasTable_calls {lo hi : Nat} {w : World} {a : Option Addr} {n : Nat} {l : List (List (Int × Int) × Int)} (h : TbA lo hi w a n l) (c : Nat) :
    Calls Try.prog 76 #[.slice a n c, fnV 77] w fun e w' => e = .returned (.bool (l.any longT)) ∧ Q0 w w' := by
  go_enter Try.func76, Try.ntmps76
  go_wp2_with (go_at_call 94; refine (idxTable_calls h _).mono ?_; rintro e w' ⟨rfl, hF2⟩)
  go_ret
  exact ⟨mret_bool (fstB_any longT l), hF2⟩

theorem longA_at {lo hi : Nat} {w : World} {s : Fin 5 → Option Addr × Nat × Nat} {x : Ac} (h : AcS lo hi w s x) :
    longA x = (decide ((s 0).2.1 > 4) || decide ((s 1).2.1 > 16) || decide ((s 2).2.1 > 8) || decide ((s 3).2.1 > 200) || decide ((s 4).2.1 > 8) || x.ts.any longT) := by
  unfold longA; rw [h.ps.len, h.rs.len, h.ms.len, h.cs.len, h.ts.len]

theorem AcS.small {lo hi : Nat} {w : World} {s : Fin 5 → Option Addr × Nat × Nat} {x : Ac} (h : AcS lo hi w s x) : (s 0).2.1 ≤ 9223372036854775807 ∧ (s 1).2.1 ≤ 9223372036854775807 ∧ (s 2).2.1 ≤ 9223372036854775807 ∧ (s 3).2.1 ≤ 9223372036854775807 ∧ (s 4).2.1 ≤ 9223372036854775807 :=
  ⟨h.ps.small, h.rs.small, h.ms.small, h.cs.small, h.ts.small⟩

set_option maxHeartbeats 2000000 in
theorem longActor_calls {lo hi : Nat} {w : World} {s : Fin 5 → Option Addr × Nat × Nat} {x : Ac} (h : AcS lo hi w s x) :
    Calls Try.prog 55 #[acV s] w fun e w' => e = .returned (.bool (longA x)) ∧ Q0 w w' := by
  have HL := hide (longA_at h)
  obtain ⟨s0, s1, s2, s3, s4⟩ := h.small
  have ht := h.ts
  clear h
  unfold acV
  generalize s 0 = p0 at *
  generalize s 1 = p1 at *
  generalize s 2 = p2 at *
  generalize s 3 = p3 at *
  generalize s 4 = p4 at *
  obtain ⟨a0, n0, c0⟩ := p0
  obtain ⟨a1, n1, c1⟩ := p1
  obtain ⟨a2, n2, c2⟩ := p2
  obtain ⟨a3, n3, c3⟩ := p3
  obtain ⟨a4, n4, c4⟩ := p4
  dsimp only at *
  have hf1 : Q0 w (w.alloc (.cells #[.slice a0 n0 c0, .slice a1 n1 c1, .slice a2 n2 c2, .slice a3 n3 c3, .slice a4 n4 c4] 42)) := (Fr.refl _ w).alloc _
  have ht1 := TbA.fr ht hf1 q0_no
  clear ht
  by_cases h0 : (n0 : Int) > 4
  · have HR := hide (show longA x = true by rw [unhide HL]; simp; omega)
    go_enter Try.func55, Try.ntmps55
    go_wp2
    go_ret
    exact ⟨mret_bool (unhide HR).symm, hf1⟩
  by_cases h1 : (n1 : Int) > 16
  · have HR := hide (show longA x = true by rw [unhide HL]; simp; omega)
    go_enter Try.func55, Try.ntmps55
    go_wp2
    go_ret
    exact ⟨mret_bool (unhide HR).symm, hf1⟩
  by_cases h2 : (n2 : Int) > 8
  · have HR := hide (show longA x = true by rw [unhide HL]; simp; omega)
    go_enter Try.func55, Try.ntmps55
    go_wp2
    go_ret
    exact ⟨mret_bool (unhide HR).symm, hf1⟩
  by_cases h3 : (n3 : Int) > 200
  · have HR := hide (show longA x = true by rw [unhide HL]; simp; omega)
    go_enter Try.func55, Try.ntmps55
    go_wp2
    go_ret
    exact ⟨mret_bool (unhide HR).symm, hf1⟩
  by_cases h4 : (n4 : Int) > 8
  · have HR := hide (show longA x = true by rw [unhide HL]; simp; omega)
    go_enter Try.func55, Try.ntmps55
    go_wp2
    go_ret
    exact ⟨mret_bool (unhide HR).symm, hf1⟩
  have HR := hide (show longA x = x.ts.any longT by
    rw [unhide HL, decide_eq_false (by omega), decide_eq_false (by omega), decide_eq_false (by omega), decide_eq_false (by omega), decide_eq_false (by omega)]; rfl)
  clear HL
  go_enter Try.func55, Try.ntmps55
  go_wp2_with (go_at_call 76; refine (hasTable_calls ht1 _).mono ?_; rintro e w' ⟨rfl, hF2⟩)
  go_ret
  exact ⟨mret_bool (unhide HR).symm, hf1.then hF2⟩

set_option maxHeartbeats 1000000 in
theorem idxActor_calls {lo hi : Nat} {w : World} {a : Option Addr} {n : Nat} {l : List Ac} (h : AcA lo hi w a n l) (c : Nat) :
    Calls Try.prog 75 #[.slice a n c, fnV 55] w fun e w' => e = .returned (.int .i64 (fstB longA l)) ∧ Q0 w w' := by
  have hs := h.small
  go_enter Try.func75, Try.ntmps75
  go_wp2
  go_loopw [8] (fun ix w' => ∃ k : Nat, k ≤ n ∧ ix = .int .i64 k ∧ (∀ j y, j < k → l[j]? = some y → longA y = false) ∧ Q0 w w') (fun ix w' => n - (intOf ix).toNat)
  case atStart => exact ⟨0, Nat.zero_le _, rfl, fun j y hj => absurd hj (by omega), Fr.refl _ _⟩
  case round =>
    obtain ⟨k, hk, rfl, hall, hF⟩ := hrel
    have Hall := hide hall
    clear hall
    by_cases hlt : k < n
    · obtain ⟨b, off, s, x, rfl, _, _, hx, hp, c0, c1, c2, c3, c4⟩ := AcA.get (AcA.fr h hF q0_no) hlt
      have HX := hide hx
      clear hx
      cases hn : longA x
      · have hd := hide hn
        clear hn
        go_wp2_with (go_at_call 55; refine (longActor_calls hp).mono ?_; rw [unhide hd]; rintro e w' ⟨rfl, hF2⟩)
        go_roundw
        case rel =>
          refine ⟨k + 1, by omega, by go_num, fun j y hj hy => ?_, hF.then hF2⟩
          rcases Nat.lt_or_ge j k with h' | h'
          · exact unhide Hall j y h' hy
          · obtain rfl : j = k := by omega
            rw [unhide HX] at hy; cases hy; exact unhide hd
        case measure => simp [intOf]; omega
      · have hd := hide hn
        clear hn
        go_wp2_with (go_at_call 55; refine (longActor_calls hp).mono ?_; rw [unhide hd]; rintro e w' ⟨rfl, hF2⟩)
        go_ret
        exact ⟨ret_int (fstB_some (unhide HX) (unhide hd) (unhide Hall)).symm, hF.then hF2⟩
    · have HE : Hid (fstB longA l = -1) := hide (fstB_none fun j y hy => unhide Hall j y (by have := (List.getElem?_eq_some_iff.1 hy).1; have := h.len; omega) hy)
      go_wp2
      go_ret
      exact ⟨ret_int (unhide HE).symm, hF⟩

set_option maxHeartbeats 400000 in
theorem hasActor_calls {lo hi : Nat} {w : World} {a : Option Addr} {n : Nat} {l : List Ac} (h : AcA lo hi w a n l) (c : Nat) :
    Calls Try.prog 54 #[.slice a n c, fnV 55] w fun e w' => e = .returned (.bool (l.any longA)) ∧ Q0 w w' := by
  go_enter Try.func54, Try.ntmps54
  go_wp2_with (go_at_call 75; refine (idxActor_calls h _).mono ?_; rintro e w' ⟨rfl, hF2⟩)
  go_ret
  exact ⟨mret_bool (fstB_any longA l), hF2⟩

set_option maxHeartbeats 400000 in
theorem longModule_calls {lo hi : Nat} {w : World} {a : Option Addr} {n : Nat} {m : List Ac} (h : AcA lo hi w a n m) (c : Nat) :
    Calls Try.prog 35 #[moV a n c] w fun e w' => e = .returned (.bool (longM m)) ∧ Q0 w w' := by
  have hs := h.small
  have hl := h.len
  have hf1 : Q0 w (w.alloc (.cells #[.slice a n c] 25)) := (Fr.refl _ w).alloc _
  have h1 := AcA.fr h hf1 q0_no
  by_cases h0 : (n : Int) > 8
  · have HR := hide (show longM m = true by unfold longM; rw [hl]; simp; omega)
    clear hl
    go_enter Try.func35, Try.ntmps35
    go_wp2
    go_ret
    exact ⟨mret_bool (unhide HR).symm, hf1⟩
  · have HR := hide (show longM m = m.any longA by unfold longM; rw [hl, decide_eq_false (by omega)]; rfl)
    clear hl
    go_enter Try.func35, Try.ntmps35
    go_wp2_with (go_at_call 54; refine (hasActor_calls h1 _).mono ?_; rintro e w' ⟨rfl, hF2⟩)
    go_ret
    exact ⟨mret_bool (unhide HR).symm, hf1.then hF2⟩

end Go.Proofs.Ythdpgachdegcgaa
