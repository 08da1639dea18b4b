/-
  What a word's Begin does.
-/
import Derived.Test.YtpchnpdolhogdaaWdCalls
namespace Go.Proofs.Ytpchnpdolhogdaa
open Go.RowKit
set_option linter.unusedVariables false
set_option maxRecDepth 8192

theorem first_wake {k : Nat} (hk : 0 < k) (w : World) :
    Calls Try.prog 22 #[.int .i64 (k : Int), .int .i64 0] w fun e w' => e = .returned (nx 1) ∧ w = w' := by
  have h1 : ((k : Int) != 0) = true := by simp; omega
  go_enter Try.func22, Try.ntmps22
  go_wp2
  go_ret
  exact ⟨rfl, rfl⟩

theorem first_else {k : Nat} (hk : 0 < k) {op : Int} (ho : op ≠ 0) (w : World) :
    Calls Try.prog 22 #[.int .i64 (k : Int), .int .i64 op] w fun e w' => e = .returned (nx 0) ∧ w = w' := by
  have h1 : ((k : Int) != 0) = true := by simp; omega
  have h2 : (op == 0) = false := by simpa using ho
  clear ho
  go_enter Try.func22, Try.ntmps22
  go_wp2
  go_ret
  exact ⟨rfl, rfl⟩

theorem first_1 (w : World) : Calls Try.prog 22 #[.int .i64 0, .int .i64 1] w fun e w' => e = .returned (nx 4) ∧ w = w' := by
  go_enter Try.func22, Try.ntmps22
  go_wp2
  go_ret
  exact ⟨rfl, rfl⟩
theorem first_2 (w : World) : Calls Try.prog 22 #[.int .i64 0, .int .i64 2] w fun e w' => e = .returned (nx 5) ∧ w = w' := by
  go_enter Try.func22, Try.ntmps22
  go_wp2
  go_ret
  exact ⟨rfl, rfl⟩
theorem first_3 (w : World) : Calls Try.prog 22 #[.int .i64 0, .int .i64 3] w fun e w' => e = .returned (nx 7) ∧ w = w' := by
  go_enter Try.func22, Try.ntmps22
  go_wp2
  go_ret
  exact ⟨rfl, rfl⟩
theorem first_4 (w : World) : Calls Try.prog 22 #[.int .i64 0, .int .i64 4] w fun e w' => e = .returned (nx 8) ∧ w = w' := by
  go_enter Try.func22, Try.ntmps22
  go_wp2
  go_ret
  exact ⟨rfl, rfl⟩
theorem first_no {op : Int} (h1 : op ≠ 1) (h2 : op ≠ 2) (h3 : op ≠ 3) (h4 : op ≠ 4) (w : World) :
    Calls Try.prog 22 #[.int .i64 0, .int .i64 op] w fun e w' => e = .returned (nx 0) ∧ w = w' := by
  have e1 : (op == 1) = false := by simpa using h1
  have e2 : (op == 2) = false := by simpa using h2
  have e3 : (op == 3) = false := by simpa using h3
  have e4 : (op == 4) = false := by simpa using h4
  clear h1 h2 h3 h4
  go_enter Try.func22, Try.ntmps22
  go_wp2
  go_ret
  exact ⟨rfl, rfl⟩

theorem first_calls (k : Nat) (op : Int) (w : World) :
    Calls Try.prog 22 #[.int .i64 (k : Int), .int .i64 op] w fun e w' => e = .returned (nx (fpc k op)) ∧ w = w' := by
  unfold fpc
  by_cases hk : k = 0
  · subst hk
    rw [if_pos rfl]
    by_cases h1 : op = 1
    · subst h1; exact first_1 w
    rw [if_neg h1]
    by_cases h2 : op = 2
    · subst h2; exact first_2 w
    rw [if_neg h2]
    by_cases h3 : op = 3
    · subst h3; exact first_3 w
    rw [if_neg h3]
    by_cases h4 : op = 4
    · subst h4; exact first_4 w
    rw [if_neg h4]
    exact first_no h1 h2 h3 h4 w
  · rw [if_neg hk]
    by_cases h0 : op = 0
    · subst h0; exact first_wake (by omega) w
    · rw [if_neg h0]; exact first_else (by omega) h0 w

theorem begin_out {w : World} {b : Nat} {d : Wd} (h : IsW w b d) {n : Int} (hn : ¬ (0 ≤ n ∧ n < 8)) (v : Int) :
    Calls Try.prog 12 #[.pointer (some ⟨b, 0, none⟩), .int .i64 n, .int .i64 v] w fun e w' => e = .returned (.int .i64 1) ∧ w = w' := by
  have HN := hide hn
  clear hn
  go_enter Try.func12, Try.ntmps12
  go_wp2_with (go_at_call 21; refine (thread_no _ _ (unhide HN)).mono ?_; rintro e w' ⟨rfl, rfl⟩)
  go_ret
  exact ⟨rfl, rfl⟩

theorem begin_none {w : World} {b : Nat} {d : Wd} (h : IsW w b d) {k : Nat} (hk : k < 8) (op : Int) (hp : fpc k op = 0) :
    Calls Try.prog 12 #[.pointer (some ⟨b, 0, none⟩), .int .i64 (k : Int), .int .i64 op] w fun e w' => e = .returned (.int .i64 1) ∧ w = w' := by
  have HQ := hide (first_calls k op w)
  rw [hp] at HQ
  have HR : Hid (Calls Try.prog 22 #[.int .i64 (k : Int), .int .i64 op] w fun e w' => e = .returned .nilFunc ∧ w = w') := HQ
  have hN := nfEq
  clear HQ hp
  go_enter Try.func12, Try.ntmps12
  go_wp2_with (first
    | (go_at_call 21; refine (thread_yes _ _ (by omega) (by omega)).mono ?_; rintro e w' ⟨rfl, rfl⟩)
    | (go_at_call 22; refine (unhide HR).mono ?_; rintro e w' ⟨rfl, rfl⟩))
  go_ret
  exact ⟨rfl, rfl⟩

theorem nx_pos {p : Nat} (h : 0 < p) : ∃ f, nx p = .func (.func f) #[] #[] := by
  unfold nx; split <;> first | exact ⟨_, rfl⟩ | omega

theorem begin_busy {w : World} {b : Nat} {d : Wd} (h : IsW w b d) {k : Nat} (hk : k < 8) (op : Int) (hp : fpc k op ≠ 0) (hb : 0 < d.pc k) :
    Calls Try.prog 12 #[.pointer (some ⟨b, 0, none⟩), .int .i64 (k : Int), .int .i64 op] w fun e w' => e = .returned (.int .i64 14) ∧ w = w' := by
  have HQ := hide (first_calls k op w)
  obtain ⟨f, hf⟩ := nx_pos (show 0 < fpc k op by omega)
  rw [hf] at HQ
  have HB := hide (busy_yes h hk hb)
  have hN := fnEq f #[]
  clear hf hp hb
  go_enter Try.func12, Try.ntmps12
  go_wp2_with (first
    | (go_at_call 21; refine (thread_yes _ _ (by omega) (by omega)).mono ?_; rintro e w' ⟨rfl, rfl⟩)
    | (go_at_call 22; refine (unhide HQ).mono ?_; rintro e w' ⟨rfl, rfl⟩)
    | (go_at_call 18; refine (unhide HB).mono ?_; rintro e w' ⟨rfl, rfl⟩))
  go_ret
  exact ⟨rfl, rfl⟩

/-- the holder's: refused, as it holds or doesn't -/
theorem begin_state {w : World} {b : Nat} {d : Wd} (h : IsW w b d) (op : Int) (hp : fpc 0 op ≠ 0) (hb : d.pc 0 = 0) (hs : d.held = true ↔ op = 1) :
    Calls Try.prog 12 #[.pointer (some ⟨b, 0, none⟩), .int .i64 ((0 : Nat) : Int), .int .i64 op] w fun e w' => e = .returned (.int .i64 13) ∧ w = w' := by
  have HQ := hide (first_calls 0 op w)
  obtain ⟨f, hf⟩ := nx_pos (show 0 < fpc 0 op by omega)
  rw [hf] at HQ
  have HB := hide (busy_no h (k := 0) (by omega) hb)
  have hN := fnEq f #[]
  have c1 := h.c1
  have hE : (op == 1) = d.held := by
    cases hd : d.held
    · rw [hd] at hs; simpa using hs
    · rw [hd] at hs; simpa using hs
  have hE2 : (d.held == d.held) = true := by simp
  clear hf hp hb hs
  generalize d.held = hh at *
  go_enter Try.func12, Try.ntmps12
  go_wp2_with (first
    | (go_at_call 21; refine (thread_yes _ _ (by omega) (by omega)).mono ?_; rintro e w' ⟨rfl, rfl⟩)
    | (go_at_call 22; refine (unhide HQ).mono ?_; rintro e w' ⟨rfl, rfl⟩)
    | (go_at_call 18; refine (unhide HB).mono ?_; rintro e w' ⟨rfl, rfl⟩))
  go_ret
  exact ⟨rfl, rfl⟩

theorem fpc_ne (k : Nat) (op : Int) : fpc k op ≠ 2 ∧ fpc k op ≠ 3 := by
  unfold fpc
  repeat' split
  all_goals omega

/-- the holder begins -/
theorem begin_hold {w : World} {b : Nat} {d : Wd} (h : IsW w b d) (op : Int) (hp : fpc 0 op ≠ 0) (hb : d.pc 0 = 0) (hs : ¬ (d.held = true ↔ op = 1)) :
    Calls Try.prog 12 #[.pointer (some ⟨b, 0, none⟩), .int .i64 ((0 : Nat) : Int), .int .i64 op] w fun e w' => e = .returned (.int .i64 0) ∧ IsW w' b (d.set 0 (fpc 0 op)) ∧ FrW b w w' := by
  have HQ := hide (first_calls 0 op w)
  obtain ⟨f, hf⟩ := nx_pos (show 0 < fpc 0 op by omega)
  have hS := hide (h.sth (k := 0) (by omega) (NX.plain (w := w) (p := fpc 0 op) (fpc_ne 0 op).1 (fpc_ne 0 op).2))
  rw [hf] at HQ hS
  have HB := hide (busy_no h (k := 0) (by omega) hb)
  have hN := fnEq f #[]
  have c1 := h.c1
  have f2 := h.free 2
  obtain ⟨v, c2, _⟩ := h.ct (k := 0) (by omega)
  have hE : (op == 1) = !d.held := by
    cases hd : d.held
    · rw [hd] at hs; simpa using hs
    · rw [hd] at hs; simpa using hs
  have hE2 : (d.held == !d.held) = false := by simp
  clear hf hp hb hs
  generalize d.held = hh at hE hE2 c1
  go_enter Try.func12, Try.ntmps12
  go_wp2_with (first
    | (go_at_call 21; refine (thread_yes _ _ (by omega) (by omega)).mono ?_; rintro e w' ⟨rfl, rfl⟩)
    | (go_at_call 22; refine (unhide HQ).mono ?_; rintro e w' ⟨rfl, rfl⟩)
    | (go_at_call 18; refine (unhide HB).mono ?_; rintro e w' ⟨rfl, rfl⟩))
  go_ret
  exact ⟨rfl, unhide hS, Fr.set1 w b 2 _⟩

/-- a waker begins -/
theorem begin_wake {w : World} {b : Nat} {d : Wd} (h : IsW w b d) {k : Nat} (hk : k < 8) (hk0 : 0 < k) (hb : d.pc k = 0) :
    Calls Try.prog 12 #[.pointer (some ⟨b, 0, none⟩), .int .i64 (k : Int), .int .i64 0] w fun e w' => e = .returned (.int .i64 0) ∧ IsW w' b (d.set k 1) ∧ FrW b w w' := by
  have HQ : Hid (Calls Try.prog 22 #[.int .i64 (k : Int), .int .i64 0] w fun e w' => e = .returned (.func (.func 25) #[] #[]) ∧ w = w') := hide (first_wake hk0 w)
  have hS : Hid (IsW (w.setCell ⟨b, 2 + k, none⟩ (.func (.func 25) #[] #[])) b (d.set k 1)) := hide (h.sth hk (NX.plain (w := w) (p := 1) (by decide) (by decide)))
  have HB := hide (busy_no h hk hb)
  have hN := fnEq 25 #[]
  have f2 := h.free (2 + k)
  obtain ⟨v, c2, _⟩ := h.ct hk
  have hE : ((k : Int) == 0) = false := by simp; omega
  have hk' : (k : Int) < 8 := by omega
  clear hb
  go_enter Try.func12, Try.ntmps12
  go_wp2_with (first
    | (go_at_call 21; refine (thread_yes _ _ (by omega) (by omega)).mono ?_; rintro e w' ⟨rfl, rfl⟩)
    | (go_at_call 22; refine (unhide HQ).mono ?_; rintro e w' ⟨rfl, rfl⟩)
    | (go_at_call 18; refine (unhide HB).mono ?_; rintro e w' ⟨rfl, rfl⟩))
  go_ret
  exact ⟨rfl, unhide hS, Fr.set1 w b (2 + k) _⟩

/-- whoever begins whatever -/
theorem begin_calls {w : World} {b : Nat} {d : Wd} (h : IsW w b d) (n op : Int) :
    Calls Try.prog 12 #[.pointer (some ⟨b, 0, none⟩), .int .i64 n, .int .i64 op] w fun e w' => e = .returned (.int .i64 (bgn d n op).2) ∧ IsW w' b (bgn d n op).1 ∧ FrW b w w' := by
  have stay : ∀ {x : Int}, (Calls Try.prog 12 #[.pointer (some ⟨b, 0, none⟩), .int .i64 n, .int .i64 op] w fun e w' => e = .returned (.int .i64 x) ∧ w = w') →
      Calls Try.prog 12 #[.pointer (some ⟨b, 0, none⟩), .int .i64 n, .int .i64 op] w fun e w' => e = .returned (.int .i64 x) ∧ IsW w' b d ∧ FrW b w w' :=
    fun H => H.mono (fun e w' ⟨h1, h2⟩ => by subst h2; exact ⟨h1, h, Fr.refl _ w⟩)
  unfold bgn
  by_cases hn : 0 ≤ n ∧ n < 8
  · rw [if_pos hn]
    obtain ⟨k, rfl⟩ : ∃ k : Nat, n = (k : Int) := ⟨n.toNat, by omega⟩
    rw [Int.toNat_natCast]
    have hk : k < 8 := by omega
    by_cases h0 : fpc k op = 0
    · rw [if_pos h0]; exact stay (begin_none h hk op h0)
    rw [if_neg h0]
    by_cases h1 : 0 < d.pc k
    · rw [if_pos h1]; exact stay (begin_busy h hk op h0 h1)
    rw [if_neg h1]
    by_cases hz : k = 0
    · subst hz
      by_cases hs : d.held = true ↔ op = 1
      · rw [if_pos ⟨rfl, hs⟩]; exact stay (begin_state h op h0 (by omega) hs)
      · rw [if_neg (fun hh => hs hh.2)]; exact begin_hold h op h0 (by omega) hs
    · rw [if_neg (fun hh => hz hh.1)]
      have ho : op = 0 := by
        unfold fpc at h0; rw [if_neg hz] at h0
        by_cases e : op = 0
        · exact e
        · rw [if_neg e] at h0; exact absurd rfl h0
      subst ho
      have e : fpc k 0 = 1 := by unfold fpc; rw [if_neg hz, if_pos rfl]
      rw [e]
      exact begin_wake h hk (by omega) (by omega)
  · rw [if_neg hn]; exact stay (begin_out h hn op)

end Go.Proofs.Ytpchnpdolhogdaa
