/-
  What a deque's Step, Begin, Busy, Top, Bottom and New do.
-/
import Derived.Test.YtingpopcdihclaaDqAcc
namespace Go.Proofs.Ytingpopcdihclaa
open Go.RowKit
set_option linter.unusedVariables false
set_option maxRecDepth 8192

/-- what a number must be for the walk's sums to stay bare -/
abbrev Bd (x : Int) : Prop := -1152921504606846976 ≤ x ∧ x ≤ 1152921504606846976

/-- a step of thread k's goes through -/
structure Sd (d : Dq) (k : Nat) : Prop where
  pc : 0 < (d.th k).pc ∧ (d.th k).pc ≤ 14
  top : Bd d.top
  bot : Bd d.bot
  t : (d.th k).pc = 9 ∨ (d.th k).pc = 13 ∨ (d.th k).pc = 14 → Bd (d.th k).t
  b : (d.th k).pc = 2 ∨ (d.th k).pc = 3 ∨ (d.th k).pc = 4 ∨ (d.th k).pc = 8 ∨ (d.th k).pc = 10 → Bd (d.th k).b
  pb : (d.th k).pc = 3 ∨ (d.th k).pc = 8 → 0 ≤ (d.th k).b
  pt : (d.th k).pc = 13 → 0 ≤ (d.th k).t

theorem s1 {w : World} {b g S : Nat} {d : Dq} (h : IsD w b g S d) {k o : Nat} (hk : k < 8) (ho : Hid (o = 3 + k * 5)) (hs : Sd d k) (hp : (d.th k).pc = 1) :
    Calls Try.prog 33 #[.pointer (some ⟨b, 0, none⟩), .pointer (some ⟨b, o, none⟩)] w (AP w b g S (stp S d k).1 (stp S d k).2) := by
  rw [stp_1 S d k hp]
  exact a1 h hk ho

theorem s2 {w : World} {b g S : Nat} {d : Dq} (h : IsD w b g S d) {k o : Nat} (hk : k < 8) (ho : Hid (o = 3 + k * 5)) (hs : Sd d k) (hp : (d.th k).pc = 2) :
    Calls Try.prog 38 #[.pointer (some ⟨b, 0, none⟩), .pointer (some ⟨b, o, none⟩)] w (AP w b g S (stp S d k).1 (stp S d k).2) := by
  rw [stp_2 S d k hp]
  by_cases hc : (S : Int) ≤ (d.th k).b - d.top
  · rw [if_pos hc]; exact a2y h hk ho (hs.b (by omega)) hs.top hc
  · rw [if_neg hc]; exact a2n h hk ho (hs.b (by omega)) hs.top (by omega)

theorem s3 {w : World} {b g S : Nat} {d : Dq} (h : IsD w b g S d) {k o : Nat} (hk : k < 8) (ho : Hid (o = 3 + k * 5)) (hs : Sd d k) (hp : (d.th k).pc = 3) :
    Calls Try.prog 42 #[.pointer (some ⟨b, 0, none⟩), .pointer (some ⟨b, o, none⟩)] w (AP w b g S (stp S d k).1 (stp S d k).2) := by
  rw [stp_3 S d k hp]
  exact a3 h hk ho ⟨hs.pb (.inl hp), (hs.b (by omega)).2⟩

theorem s4 {w : World} {b g S : Nat} {d : Dq} (h : IsD w b g S d) {k o : Nat} (hk : k < 8) (ho : Hid (o = 3 + k * 5)) (hs : Sd d k) (hp : (d.th k).pc = 4) :
    Calls Try.prog 45 #[.pointer (some ⟨b, 0, none⟩), .pointer (some ⟨b, o, none⟩)] w (AP w b g S (stp S d k).1 (stp S d k).2) := by
  rw [stp_4 S d k hp]
  exact a4 h hk ho (hs.b (by omega))

theorem s5 {w : World} {b g S : Nat} {d : Dq} (h : IsD w b g S d) {k o : Nat} (hk : k < 8) (ho : Hid (o = 3 + k * 5)) (hs : Sd d k) (hp : (d.th k).pc = 5) :
    Calls Try.prog 34 #[.pointer (some ⟨b, 0, none⟩), .pointer (some ⟨b, o, none⟩)] w (AP w b g S (stp S d k).1 (stp S d k).2) := by
  rw [stp_5 S d k hp]
  exact a5 h hk ho hs.bot

theorem s6 {w : World} {b g S : Nat} {d : Dq} (h : IsD w b g S d) {k o : Nat} (hk : k < 8) (ho : Hid (o = 3 + k * 5)) (hs : Sd d k) (hp : (d.th k).pc = 6) :
    Calls Try.prog 39 #[.pointer (some ⟨b, 0, none⟩), .pointer (some ⟨b, o, none⟩)] w (AP w b g S (stp S d k).1 (stp S d k).2) := by
  rw [stp_6 S d k hp]
  exact a6 h hk ho

theorem s7 {w : World} {b g S : Nat} {d : Dq} (h : IsD w b g S d) {k o : Nat} (hk : k < 8) (ho : Hid (o = 3 + k * 5)) (hs : Sd d k) (hp : (d.th k).pc = 7) :
    Calls Try.prog 43 #[.pointer (some ⟨b, 0, none⟩), .pointer (some ⟨b, o, none⟩)] w (AP w b g S (stp S d k).1 (stp S d k).2) := by
  rw [stp_7 S d k hp]
  by_cases hc : (d.th k).b < d.top
  · rw [if_pos hc]; exact a7y h hk ho hc
  · rw [if_neg hc]; exact a7n h hk ho (by omega)

theorem s8 {w : World} {b g S : Nat} {d : Dq} (h : IsD w b g S d) {k o : Nat} (hk : k < 8) (ho : Hid (o = 3 + k * 5)) (hs : Sd d k) (hp : (d.th k).pc = 8) :
    Calls Try.prog 47 #[.pointer (some ⟨b, 0, none⟩), .pointer (some ⟨b, o, none⟩)] w (AP w b g S (stp S d k).1 (stp S d k).2) := by
  rw [stp_8 S d k hp]
  by_cases hc : (d.th k).t < (d.th k).b
  · rw [if_pos hc]; exact a8y h hk ho ⟨hs.pb (.inr hp), (hs.b (by omega)).2⟩ hc
  · rw [if_neg hc]; exact a8n h hk ho ⟨hs.pb (.inr hp), (hs.b (by omega)).2⟩ (by omega)

theorem s9 {w : World} {b g S : Nat} {d : Dq} (h : IsD w b g S d) {k o : Nat} (hk : k < 8) (ho : Hid (o = 3 + k * 5)) (hs : Sd d k) (hp : (d.th k).pc = 9) :
    Calls Try.prog 49 #[.pointer (some ⟨b, 0, none⟩), .pointer (some ⟨b, o, none⟩)] w (AP w b g S (stp S d k).1 (stp S d k).2) := by
  rw [stp_9 S d k hp]
  by_cases hc : d.top = (d.th k).t
  · rw [if_pos hc]; have := a9y h hk ho (hs.t (by omega)) hc; rw [← hc] at this; exact this
  · rw [if_neg hc]; exact a9n h hk ho hc

theorem s10 {w : World} {b g S : Nat} {d : Dq} (h : IsD w b g S d) {k o : Nat} (hk : k < 8) (ho : Hid (o = 3 + k * 5)) (hs : Sd d k) (hp : (d.th k).pc = 10) :
    Calls Try.prog 46 #[.pointer (some ⟨b, 0, none⟩), .pointer (some ⟨b, o, none⟩)] w (AP w b g S (stp S d k).1 (stp S d k).2) := by
  rw [stp_10 S d k hp]
  by_cases hc : (d.th k).won = true
  · rw [if_pos hc]; exact a10y h hk ho (hs.b (by omega)) hc
  · rw [if_neg hc]; exact a10n h hk ho (hs.b (by omega)) (by simpa using hc)

theorem s11 {w : World} {b g S : Nat} {d : Dq} (h : IsD w b g S d) {k o : Nat} (hk : k < 8) (ho : Hid (o = 3 + k * 5)) (hs : Sd d k) (hp : (d.th k).pc = 11) :
    Calls Try.prog 35 #[.pointer (some ⟨b, 0, none⟩), .pointer (some ⟨b, o, none⟩)] w (AP w b g S (stp S d k).1 (stp S d k).2) := by
  rw [stp_11 S d k hp]
  exact a11 h hk ho

theorem s12 {w : World} {b g S : Nat} {d : Dq} (h : IsD w b g S d) {k o : Nat} (hk : k < 8) (ho : Hid (o = 3 + k * 5)) (hs : Sd d k) (hp : (d.th k).pc = 12) :
    Calls Try.prog 40 #[.pointer (some ⟨b, 0, none⟩), .pointer (some ⟨b, o, none⟩)] w (AP w b g S (stp S d k).1 (stp S d k).2) := by
  rw [stp_12 S d k hp]
  by_cases hc : d.bot ≤ (d.th k).t
  · rw [if_pos hc]; exact a12y h hk ho hc
  · rw [if_neg hc]; exact a12n h hk ho (by omega)

theorem s13 {w : World} {b g S : Nat} {d : Dq} (h : IsD w b g S d) {k o : Nat} (hk : k < 8) (ho : Hid (o = 3 + k * 5)) (hs : Sd d k) (hp : (d.th k).pc = 13) :
    Calls Try.prog 44 #[.pointer (some ⟨b, 0, none⟩), .pointer (some ⟨b, o, none⟩)] w (AP w b g S (stp S d k).1 (stp S d k).2) := by
  rw [stp_13 S d k hp]
  exact a13 h hk ho ⟨hs.pt hp, (hs.t (by omega)).2⟩

theorem s14 {w : World} {b g S : Nat} {d : Dq} (h : IsD w b g S d) {k o : Nat} (hk : k < 8) (ho : Hid (o = 3 + k * 5)) (hs : Sd d k) (hp : (d.th k).pc = 14) :
    Calls Try.prog 48 #[.pointer (some ⟨b, 0, none⟩), .pointer (some ⟨b, o, none⟩)] w (AP w b g S (stp S d k).1 (stp S d k).2) := by
  rw [stp_14 S d k hp]
  by_cases hc : d.top = (d.th k).t
  · rw [if_pos hc]; have := a14y h hk ho (hs.t (by omega)) hc; rw [← hc] at this; exact this
  · rw [if_neg hc]; exact a14n h hk ho hc

set_option maxHeartbeats 400000 in
theorem thread_yes (n : Int) (w : World) (h0 : 0 ≤ n) (h1 : n < 8) :
    Calls Try.prog 26 #[.int .i64 n] w fun e w' => e = .returned (.bool true) ∧ w = w' := by
  go_enter Try.func26, Try.ntmps26
  go_wp2
  go_ret
  exact ⟨rfl, rfl⟩

set_option maxHeartbeats 400000 in
theorem thread_no (n : Int) (w : World) (h0 : ¬ (0 ≤ n ∧ n < 8)) :
    Calls Try.prog 26 #[.int .i64 n] w fun e w' => e = .returned (.bool false) ∧ w = w' := by
  by_cases hn : 0 ≤ n
  · have h1 : 8 ≤ n := by omega
    clear h0
    go_enter Try.func26, Try.ntmps26
    go_wp2
    go_ret
    exact ⟨by rw [← decide_eq_false (show ¬ n < 8 by omega)]; rfl, rfl⟩
  · have hn' : n < 0 := by omega
    clear h0 hn
    go_enter Try.func26, Try.ntmps26
    go_wp2
    go_ret
    exact ⟨rfl, rfl⟩

theorem fnNe (f : Nat) (w : World) : (binOp .neq 63 (.func (.func f) #[] #[]) .nilFunc).run Try.prog w = .ok (.bool true) w := by kernel_rfl
theorem nfNe (w : World) : (binOp .neq 63 .nilFunc .nilFunc).run Try.prog w = .ok (.bool false) w := by kernel_rfl
theorem fnEq (f : Nat) (w : World) : (binOp .eql 63 (.func (.func f) #[] #[]) .nilFunc).run Try.prog w = .ok (.bool false) w := by kernel_rfl
theorem nfEq (w : World) : (binOp .eql 63 .nilFunc .nilFunc).run Try.prog w = .ok (.bool true) w := by kernel_rfl

theorem nx_pos {p : Nat} (h : 0 < p) : ∃ f, nx p = .func (.func f) #[] #[] := by
  unfold nx; split <;> first | exact ⟨_, rfl⟩ | omega

set_option maxHeartbeats 1000000 in
theorem busy_yes {w : World} {b g S : Nat} {d : Dq} (h : IsD w b g S d) {k : Nat} (hk : k < 8) (hp : 0 < (d.th k).pc) :
    Calls Try.prog 19 #[.pointer (some ⟨b, 0, none⟩), .int .i64 (k : Int)] w fun e w' => e = .returned (.bool true) ∧ w = w' := by
  obtain ⟨c0, _⟩ := h.ct hk rfl
  obtain ⟨f, hf⟩ := nx_pos hp
  rw [hf] at c0
  have hk' : (k : Int) < 8 := by omega
  have hN := fnNe f
  clear hf
  go_enter Try.func19, Try.ntmps19
  go_wp2_with (go_at_call 26; refine (thread_yes _ _ (by omega) (by omega)).mono ?_; rintro e w' ⟨rfl, rfl⟩)
  go_ret
  exact ⟨rfl, rfl⟩

set_option maxHeartbeats 1000000 in
theorem busy_no {w : World} {b g S : Nat} {d : Dq} (h : IsD w b g S d) {k : Nat} (hk : k < 8) (hp : (d.th k).pc = 0) :
    Calls Try.prog 19 #[.pointer (some ⟨b, 0, none⟩), .int .i64 (k : Int)] w fun e w' => e = .returned (.bool false) ∧ w = w' := by
  obtain ⟨c0, _⟩ := h.ct hk rfl
  rw [hp] at c0
  replace c0 : w.cell? ⟨b, 3 + k * 5, none⟩ = some .nilFunc := c0
  have hk' : (k : Int) < 8 := by omega
  have hN := nfNe
  go_enter Try.func19, Try.ntmps19
  go_wp2_with (go_at_call 26; refine (thread_yes _ _ (by omega) (by omega)).mono ?_; rintro e w' ⟨rfl, rfl⟩)
  go_ret
  exact ⟨rfl, rfl⟩

set_option maxHeartbeats 1000000 in
theorem busy_out {w : World} {b g S : Nat} {d : Dq} (h : IsD w b g S d) {n : Int} (hn : ¬ (0 ≤ n ∧ n < 8)) :
    Calls Try.prog 19 #[.pointer (some ⟨b, 0, none⟩), .int .i64 n] w fun e w' => e = .returned (.bool false) ∧ w = w' := by
  have HN := hide hn
  clear hn
  go_enter Try.func19, Try.ntmps19
  go_wp2_with (go_at_call 26; refine (thread_no _ _ (unhide HN)).mono ?_; rintro e w' ⟨rfl, rfl⟩)
  go_ret
  exact ⟨rfl, rfl⟩

set_option maxHeartbeats 400000 in
theorem dtop {w : World} {b g S : Nat} {d : Dq} (h : IsD w b g S d) :
    Calls Try.prog 17 #[.pointer (some ⟨b, 0, none⟩)] w fun e w' => e = .returned (.int .i64 d.top) ∧ w = w' := by
  have c0 := h.c0
  go_enter Try.func17, Try.ntmps17
  go_wp2
  go_ret
  exact ⟨rfl, rfl⟩

set_option maxHeartbeats 400000 in
theorem dbot {w : World} {b g S : Nat} {d : Dq} (h : IsD w b g S d) :
    Calls Try.prog 18 #[.pointer (some ⟨b, 0, none⟩)] w fun e w' => e = .returned (.int .i64 d.bot) ∧ w = w' := by
  have c0 := h.c1
  go_enter Try.func18, Try.ntmps18
  go_wp2
  go_ret
  exact ⟨rfl, rfl⟩

/-- what a step of any thread's leaves, tells, and whether it is refused -/
def stpI (S : Nat) (d : Dq) (n : Int) : Dq × Dn × Int :=
  if 0 ≤ n ∧ n < 8 then (if (d.th n.toNat).pc = 0 then (d, Dn.none, 13) else ((stp S d n.toNat).1, (stp S d n.toNat).2, 0)) else (d, Dn.none, 1)

set_option maxHeartbeats 2000000 in
theorem step_out {w : World} {b g S : Nat} {d : Dq} (h : IsD w b g S d) {n : Int} (hn : ¬ (0 ≤ n ∧ n < 8)) :
    Calls Try.prog 15 #[.pointer (some ⟨b, 0, none⟩), .int .i64 n] w fun e w' => e = .returned (.tuple #[dnV Dn.none, .int .i64 1]) ∧ IsD w' b g S d ∧ FrD b g w w' := by
  have HN := hide hn
  clear hn
  go_enter Try.func15, Try.ntmps15
  go_wp2_with (go_at_call 26; refine (thread_no _ _ (unhide HN)).mono ?_; rintro e w' ⟨rfl, rfl⟩)
  exact bodyPost_ret (results_dn2 rfl _ _ w.heap.size Dn.none rfl (DnAt.new w)) rfl ⟨rfl, h.al _, (Fr.refl _ w).alloc _⟩

set_option maxHeartbeats 2000000 in
theorem step_idle {w : World} {b g S : Nat} {d : Dq} (h : IsD w b g S d) {k : Nat} (hk : k < 8) (hp : (d.th k).pc = 0) :
    Calls Try.prog 15 #[.pointer (some ⟨b, 0, none⟩), .int .i64 (k : Int)] w fun e w' => e = .returned (.tuple #[dnV Dn.none, .int .i64 13]) ∧ IsD w' b g S d ∧ FrD b g w w' := by
  go_enter Try.func15, Try.ntmps15
  go_wp2_with (first
    | (go_at_call 26; refine (thread_yes _ _ (by omega) (by omega)).mono ?_; rintro e w' ⟨rfl, rfl⟩)
    | (go_at_call 19; refine (busy_no (h.al _) hk hp).mono ?_; rintro e w' ⟨rfl, rfl⟩))
  exact bodyPost_ret (results_dn2 rfl _ _ w.heap.size Dn.none rfl (DnAt.new w)) rfl ⟨rfl, h.al _, (Fr.refl _ w).alloc _⟩

set_option maxHeartbeats 2000000 in
theorem step_nil (n : Int) (w : World) :
    Calls Try.prog 15 #[.pointer none, .int .i64 n] w fun e w' => e = .returned (.tuple #[dnV Dn.none, .int .i64 1]) ∧ Fr (fun _ => False) w w' := by
  go_enter Try.func15, Try.ntmps15
  go_wp2
  exact bodyPost_ret (results_dn2 rfl _ _ w.heap.size Dn.none rfl (DnAt.new w)) rfl ⟨rfl, (Fr.refl _ w).alloc _⟩

set_option maxHeartbeats 4000000 in
theorem step_busy {w : World} {b g S : Nat} {d : Dq} (h : IsD w b g S d) {k : Nat} (hk : k < 8) (hs : Sd d k) :
    Calls Try.prog 15 #[.pointer (some ⟨b, 0, none⟩), .int .i64 (k : Int)] w fun e w' => e = .returned (.tuple #[dnV (stp S d k).2, .int .i64 0]) ∧ IsD w' b g S (stp S d k).1 ∧ FrD b g w w' := by
  obtain ⟨p0, p1⟩ := hs.pc
  obtain ⟨c0, _⟩ := h.ct hk rfl
  have hk' : (k : Int) < 8 := by omega
  have hlt := h.lt
  have hltg := h.ltg
  obtain ⟨p, hp⟩ : ∃ p, (d.th k).pc = p := ⟨_, rfl⟩
  rw [hp] at c0 p1 p0
  have hpc : p = 1 ∨ p = 2 ∨ p = 3 ∨ p = 4 ∨ p = 5 ∨ p = 6 ∨ p = 7 ∨ p = 8 ∨ p = 9 ∨ p = 10 ∨ p = 11 ∨ p = 12 ∨ p = 13 ∨ p = 14 := by omega
  have HP := hide hp
  clear hp p0 p1
  rcases hpc with rfl | rfl | rfl | rfl | rfl | rfl | rfl | rfl | rfl | rfl | rfl | rfl | rfl | rfl
  all_goals
    replace c0 := c0.trans (show some (nx _) = some (.func (.func _) #[] #[]) from rfl)
    go_enter Try.func15, Try.ntmps15
    go_wp2_with (first
      | (go_at_call 26; refine (thread_yes _ _ (by omega) (by omega)).mono ?_; rintro e w' ⟨rfl, rfl⟩)
      | (go_at_call 19; refine (busy_yes (h.al _) hk hs.pc.1).mono ?_; rintro e w' ⟨rfl, rfl⟩)
      | (go_at_call 33; refine (s1 (h.al _) hk (hide rfl) hs HP.out).mono ?_; rintro e w1 ⟨rfl, hD, hF⟩; have hq := DnAt.fr (b := w.heap.size) (x := Dn.none) (DnAt.new w) hF (show ¬ (w.heap.size = b ∨ w.heap.size = g) by omega); obtain ⟨⟨q0, q1, q2, q3⟩, z0, z1, z2, z3⟩ := hq.cs; simp only [dnV])
      | (go_at_call 38; refine (s2 (h.al _) hk (hide rfl) hs HP.out).mono ?_; rintro e w1 ⟨rfl, hD, hF⟩; have hq := DnAt.fr (b := w.heap.size) (x := Dn.none) (DnAt.new w) hF (show ¬ (w.heap.size = b ∨ w.heap.size = g) by omega); obtain ⟨⟨q0, q1, q2, q3⟩, z0, z1, z2, z3⟩ := hq.cs; simp only [dnV])
      | (go_at_call 42; refine (s3 (h.al _) hk (hide rfl) hs HP.out).mono ?_; rintro e w1 ⟨rfl, hD, hF⟩; have hq := DnAt.fr (b := w.heap.size) (x := Dn.none) (DnAt.new w) hF (show ¬ (w.heap.size = b ∨ w.heap.size = g) by omega); obtain ⟨⟨q0, q1, q2, q3⟩, z0, z1, z2, z3⟩ := hq.cs; simp only [dnV])
      | (go_at_call 45; refine (s4 (h.al _) hk (hide rfl) hs HP.out).mono ?_; rintro e w1 ⟨rfl, hD, hF⟩; have hq := DnAt.fr (b := w.heap.size) (x := Dn.none) (DnAt.new w) hF (show ¬ (w.heap.size = b ∨ w.heap.size = g) by omega); obtain ⟨⟨q0, q1, q2, q3⟩, z0, z1, z2, z3⟩ := hq.cs; simp only [dnV])
      | (go_at_call 34; refine (s5 (h.al _) hk (hide rfl) hs HP.out).mono ?_; rintro e w1 ⟨rfl, hD, hF⟩; have hq := DnAt.fr (b := w.heap.size) (x := Dn.none) (DnAt.new w) hF (show ¬ (w.heap.size = b ∨ w.heap.size = g) by omega); obtain ⟨⟨q0, q1, q2, q3⟩, z0, z1, z2, z3⟩ := hq.cs; simp only [dnV])
      | (go_at_call 39; refine (s6 (h.al _) hk (hide rfl) hs HP.out).mono ?_; rintro e w1 ⟨rfl, hD, hF⟩; have hq := DnAt.fr (b := w.heap.size) (x := Dn.none) (DnAt.new w) hF (show ¬ (w.heap.size = b ∨ w.heap.size = g) by omega); obtain ⟨⟨q0, q1, q2, q3⟩, z0, z1, z2, z3⟩ := hq.cs; simp only [dnV])
      | (go_at_call 43; refine (s7 (h.al _) hk (hide rfl) hs HP.out).mono ?_; rintro e w1 ⟨rfl, hD, hF⟩; have hq := DnAt.fr (b := w.heap.size) (x := Dn.none) (DnAt.new w) hF (show ¬ (w.heap.size = b ∨ w.heap.size = g) by omega); obtain ⟨⟨q0, q1, q2, q3⟩, z0, z1, z2, z3⟩ := hq.cs; simp only [dnV])
      | (go_at_call 47; refine (s8 (h.al _) hk (hide rfl) hs HP.out).mono ?_; rintro e w1 ⟨rfl, hD, hF⟩; have hq := DnAt.fr (b := w.heap.size) (x := Dn.none) (DnAt.new w) hF (show ¬ (w.heap.size = b ∨ w.heap.size = g) by omega); obtain ⟨⟨q0, q1, q2, q3⟩, z0, z1, z2, z3⟩ := hq.cs; simp only [dnV])
      | (go_at_call 49; refine (s9 (h.al _) hk (hide rfl) hs HP.out).mono ?_; rintro e w1 ⟨rfl, hD, hF⟩; have hq := DnAt.fr (b := w.heap.size) (x := Dn.none) (DnAt.new w) hF (show ¬ (w.heap.size = b ∨ w.heap.size = g) by omega); obtain ⟨⟨q0, q1, q2, q3⟩, z0, z1, z2, z3⟩ := hq.cs; simp only [dnV])
      | (go_at_call 46; refine (s10 (h.al _) hk (hide rfl) hs HP.out).mono ?_; rintro e w1 ⟨rfl, hD, hF⟩; have hq := DnAt.fr (b := w.heap.size) (x := Dn.none) (DnAt.new w) hF (show ¬ (w.heap.size = b ∨ w.heap.size = g) by omega); obtain ⟨⟨q0, q1, q2, q3⟩, z0, z1, z2, z3⟩ := hq.cs; simp only [dnV])
      | (go_at_call 35; refine (s11 (h.al _) hk (hide rfl) hs HP.out).mono ?_; rintro e w1 ⟨rfl, hD, hF⟩; have hq := DnAt.fr (b := w.heap.size) (x := Dn.none) (DnAt.new w) hF (show ¬ (w.heap.size = b ∨ w.heap.size = g) by omega); obtain ⟨⟨q0, q1, q2, q3⟩, z0, z1, z2, z3⟩ := hq.cs; simp only [dnV])
      | (go_at_call 40; refine (s12 (h.al _) hk (hide rfl) hs HP.out).mono ?_; rintro e w1 ⟨rfl, hD, hF⟩; have hq := DnAt.fr (b := w.heap.size) (x := Dn.none) (DnAt.new w) hF (show ¬ (w.heap.size = b ∨ w.heap.size = g) by omega); obtain ⟨⟨q0, q1, q2, q3⟩, z0, z1, z2, z3⟩ := hq.cs; simp only [dnV])
      | (go_at_call 44; refine (s13 (h.al _) hk (hide rfl) hs HP.out).mono ?_; rintro e w1 ⟨rfl, hD, hF⟩; have hq := DnAt.fr (b := w.heap.size) (x := Dn.none) (DnAt.new w) hF (show ¬ (w.heap.size = b ∨ w.heap.size = g) by omega); obtain ⟨⟨q0, q1, q2, q3⟩, z0, z1, z2, z3⟩ := hq.cs; simp only [dnV])
      | (go_at_call 48; refine (s14 (h.al _) hk (hide rfl) hs HP.out).mono ?_; rintro e w1 ⟨rfl, hD, hF⟩; have hq := DnAt.fr (b := w.heap.size) (x := Dn.none) (DnAt.new w) hF (show ¬ (w.heap.size = b ∨ w.heap.size = g) by omega); obtain ⟨⟨q0, q1, q2, q3⟩, z0, z1, z2, z3⟩ := hq.cs; simp only [dnV]))
    exact bodyPost_ret (results_dn2 rfl _ _ w.heap.size (stp S d k).2 rfl (hq.set (stp S d k).2)) rfl ⟨rfl, hD.fr (dn_fr w1 w.heap.size (stp S d k).2) (by omega) (by omega), (((Fr.refl _ w).alloc _).trans hF (fun _ _ h => h) (fun _ _ h => h)).trans (dn_fr w1 w.heap.size (stp S d k).2) (fun _ _ h => h) (fun i hi e => by omega)⟩

end Go.Proofs.Ytingpopcdihclaa
