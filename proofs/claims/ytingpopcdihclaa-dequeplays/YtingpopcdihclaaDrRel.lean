/-
  Both deques side by side: what the document's thread knows of what the program's does; a step of both.
-/
import Derived.Test.YtingpopcdihclaaDrStep
import Derived.Test.YtingpopcdihclaaDrPush
import Derived.Test.YtingpopcdihclaaDrPop
import Derived.Test.YtingpopcdihclaaDrSteal
namespace Go.Proofs.Ytingpopcdihclaa
open Go.RowKit
set_option linter.unusedVariables false
set_option maxRecDepth 8192

/-- what the document's thread says of the program's -/
def TR (r : Rn) (q : Mt) : Prop :=
  match r.pc with
  | 0 => q.on = false
  | 1 => q.on = true ∧ q.op = 0 ∧ q.made = 0 ∧ q.v = r.v
  | 2 => q.on = true ∧ q.op = 0 ∧ q.made = 1 ∧ q.v = r.v ∧ q.b = r.b
  | 3 => q.on = true ∧ q.op = 0 ∧ q.made = 2 ∧ q.v = r.v ∧ q.b = r.b
  | 4 => q.on = true ∧ q.op = 0 ∧ q.made = 3 ∧ q.v = r.v ∧ q.b = r.b
  | 5 => q.on = true ∧ q.op = 1 ∧ q.made = 0
  | 6 => q.on = true ∧ q.op = 1 ∧ q.made = 1 ∧ q.b = r.b
  | 7 => q.on = true ∧ q.op = 1 ∧ q.made = 2 ∧ q.b = r.b
  | 8 => q.on = true ∧ q.op = 1 ∧ q.made = 3 ∧ q.b = r.b ∧ q.t = r.t ∧ r.t ≤ r.b
  | 9 => q.on = true ∧ q.op = 1 ∧ q.made = 4 ∧ q.b = r.b ∧ q.t = r.t ∧ q.v = r.v
  | 10 => q.on = true ∧ q.op = 1 ∧ q.b = r.b ∧ ((q.made = 3 ∧ r.b < q.t ∧ r.won = false) ∨ (q.made = 5 ∧ q.won = r.won ∧ (r.won = true → q.v = r.v)))
  | 11 => q.on = true ∧ q.op = 2 ∧ q.made = 0
  | 12 => q.on = true ∧ q.op = 2 ∧ q.made = 1 ∧ q.t = r.t
  | 13 => q.on = true ∧ q.op = 2 ∧ q.made = 2 ∧ q.t = r.t
  | _ => q.on = true ∧ q.op = 2 ∧ q.made = 3 ∧ q.t = r.t ∧ q.v = r.v

structure Rel (d : Dq) (q : Mq) : Prop where
  top : q.top = d.top
  bot : q.bot = d.bot
  pl : q.pl = d.pl
  th : ∀ k, k < 8 → TR (d.th k) (q.th k)

theorem Rel.set {d : Dq} {q : Mq} (R : Rel d q) (k : Nat) {r : Rn} {s : Mt} (h : TR r s) : Rel (d.set k r) (q.set k s) :=
  ⟨R.top, R.bot, R.pl, fun i hi => by
    by_cases e : i = k
    · subst e; rw [set_th, mset_th]; exact h
    · rw [set_ne d r e, mset_ne q s e]; exact R.th i hi⟩
theorem Rel.wtop {d : Dq} {q : Mq} (R : Rel d q) (x : Int) : Rel (d.wtop x) (q.wtop x) := ⟨rfl, R.bot, R.pl, R.th⟩
theorem Rel.wbot {d : Dq} {q : Mq} (R : Rel d q) (x : Int) : Rel (d.wbot x) (q.wbot x) := ⟨R.top, rfl, R.pl, R.th⟩
theorem Rel.lay {d : Dq} {q : Mq} (R : Rel d q) (i : Nat) (x : Int) : Rel (d.lay i x) (q.lay i x) := ⟨R.top, R.bot, by simp only [Dq.lay, Mq.lay]; rw [R.pl], R.th⟩
theorem TR.zero : TR Rn.zero Mt.zero := by simp [TR, Rn.zero, Mt.zero]

/-- what a step of both leaves -/
def SP (w : World) (b g h S : Nat) (d2 : Dq) (y : Dn) (e : Ending) (w' : World) : Prop := ∃ q', e = .returned (.tuple #[dnV y, .int .i64 0]) ∧ IsM w' b g h S q' ∧ Rel d2 q' ∧ FrM b g h w w'

theorem SP.of {w : World} {b g h S : Nat} {d2 : Dq} {q' : Mq} {y : Dn} {f : FuncId} {args : Array Value} (R : Rel d2 q')
    (hc : Calls Try.prog f args w fun e w' => e = .returned (.tuple #[dnV y, .int .i64 0]) ∧ IsM w' b g h S q' ∧ FrM b g h w w') : Calls Try.prog f args w (SP w b g h S d2 y) :=
  hc.mono fun e w' ⟨h1, h2, h3⟩ => ⟨q', h1, h2, R, h3⟩

section
variable {w : World} {b g h S : Nat} {d : Dq} {q : Mq}

theorem b1 (m : IsM w b g h S q) (R : Rel d q) (hs : Sd d 0) (hp : (d.th 0).pc = 1) :
    Calls Try.prog 16 #[.pointer (some ⟨b, 0, none⟩), .int .i64 ((0 : Nat) : Int)] w (SP w b g h S (stp S d 0).1 (stp S d 0).2) := by
  have T := R.th 0 (by omega)
  obtain ⟨rt, rb, rp, _⟩ := id R
  rcases hq : q.th 0 with ⟨on, op, made, v, t, bb, won⟩
  rw [hq] at T
  simp only [TR, hp] at T
  rw [stp_1 S d 0 hp]
  obtain ⟨rfl, rfl, rfl, rfl⟩ := T
  exact SP.of (R.set 0 (by simp [TR, rb])) (mstep_push m 0 _ _ _ _ (by omega) hq (fun W hW => p1 hW _ _ _ _ _ _))
theorem b2 (m : IsM w b g h S q) (R : Rel d q) (hs : Sd d 0) (hp : (d.th 0).pc = 2) :
    Calls Try.prog 16 #[.pointer (some ⟨b, 0, none⟩), .int .i64 ((0 : Nat) : Int)] w (SP w b g h S (stp S d 0).1 (stp S d 0).2) := by
  have T := R.th 0 (by omega)
  obtain ⟨rt, rb, rp, _⟩ := id R
  rcases hq : q.th 0 with ⟨on, op, made, v, t, bb, won⟩
  rw [hq] at T
  simp only [TR, hp] at T
  rw [stp_2 S d 0 hp]
  obtain ⟨rfl, rfl, rfl, rfl, rfl⟩ := T
  split
  · rename_i hc
    exact SP.of ((R).set 0 TR.zero) (mstep_push m 1 _ _ _ _ (by omega) hq (fun W hW => p2y hW _ _ _ _ _ _ (by show Hid ((q.th 0).op = 0); rw [hq]; exact hide rfl) (hs.b (by omega)) (by rw [rt]; exact hs.top) (by rw [rt]; exact hc)))
  · rename_i hc
    exact SP.of (R.set 0 (by simp [TR])) (mstep_push m 1 _ _ _ _ (by omega) hq (fun W hW => p2n hW _ _ _ _ _ _ (hs.b (by omega)) (by rw [rt]; exact hs.top) (by rw [rt]; omega)))
theorem b3 (m : IsM w b g h S q) (R : Rel d q) (hs : Sd d 0) (hp : (d.th 0).pc = 3) :
    Calls Try.prog 16 #[.pointer (some ⟨b, 0, none⟩), .int .i64 ((0 : Nat) : Int)] w (SP w b g h S (stp S d 0).1 (stp S d 0).2) := by
  have T := R.th 0 (by omega)
  obtain ⟨rt, rb, rp, _⟩ := id R
  rcases hq : q.th 0 with ⟨on, op, made, v, t, bb, won⟩
  rw [hq] at T
  simp only [TR, hp] at T
  rw [stp_3 S d 0 hp]
  obtain ⟨rfl, rfl, rfl, rfl, rfl⟩ := T
  exact SP.of ((R.lay _ _).set 0 (by simp [TR])) (mstep_push m 2 _ _ _ _ (by omega) hq (fun W hW => p3 hW _ _ _ _ _ _ ⟨hs.pb (.inl hp), (hs.b (by omega)).2⟩))
theorem b4 (m : IsM w b g h S q) (R : Rel d q) (hs : Sd d 0) (hp : (d.th 0).pc = 4) :
    Calls Try.prog 16 #[.pointer (some ⟨b, 0, none⟩), .int .i64 ((0 : Nat) : Int)] w (SP w b g h S (stp S d 0).1 (stp S d 0).2) := by
  have T := R.th 0 (by omega)
  obtain ⟨rt, rb, rp, _⟩ := id R
  rcases hq : q.th 0 with ⟨on, op, made, v, t, bb, won⟩
  rw [hq] at T
  simp only [TR, hp] at T
  rw [stp_4 S d 0 hp]
  obtain ⟨rfl, rfl, rfl, rfl, rfl⟩ := T
  exact SP.of ((R.wbot _).set 0 TR.zero) (mstep_push m 3 _ _ _ _ (by omega) hq (fun W hW => p4 hW _ _ _ _ _ _ (by show Hid ((q.th 0).op = 0); rw [hq]; exact hide rfl) (hs.b (by omega))))
theorem b5 (m : IsM w b g h S q) (R : Rel d q) (hs : Sd d 0) (hp : (d.th 0).pc = 5) :
    Calls Try.prog 16 #[.pointer (some ⟨b, 0, none⟩), .int .i64 ((0 : Nat) : Int)] w (SP w b g h S (stp S d 0).1 (stp S d 0).2) := by
  have T := R.th 0 (by omega)
  obtain ⟨rt, rb, rp, _⟩ := id R
  rcases hq : q.th 0 with ⟨on, op, made, v, t, bb, won⟩
  rw [hq] at T
  simp only [TR, hp] at T
  rw [stp_5 S d 0 hp]
  obtain ⟨rfl, rfl, rfl⟩ := T
  exact SP.of (R.set 0 (by simp [TR, rb])) (mstep_pop m 0 _ _ _ _ (by omega) hq (fun W hW => q1 hW _ _ _ _ _ _ (by rw [rb]; exact hs.bot)))
theorem b6 (m : IsM w b g h S q) (R : Rel d q) (hs : Sd d 0) (hp : (d.th 0).pc = 6) :
    Calls Try.prog 16 #[.pointer (some ⟨b, 0, none⟩), .int .i64 ((0 : Nat) : Int)] w (SP w b g h S (stp S d 0).1 (stp S d 0).2) := by
  have T := R.th 0 (by omega)
  obtain ⟨rt, rb, rp, _⟩ := id R
  rcases hq : q.th 0 with ⟨on, op, made, v, t, bb, won⟩
  rw [hq] at T
  simp only [TR, hp] at T
  rw [stp_6 S d 0 hp]
  obtain ⟨rfl, rfl, rfl, rfl⟩ := T
  exact SP.of ((R.wbot _).set 0 (by simp [TR])) (mstep_pop m 1 _ _ _ _ (by omega) hq (fun W hW => q2 hW _ _ _ _ _ _))
theorem b7 (m : IsM w b g h S q) (R : Rel d q) (hs : Sd d 0) (hp : (d.th 0).pc = 7) (hwon : (d.th 0).won = false) :
    Calls Try.prog 16 #[.pointer (some ⟨b, 0, none⟩), .int .i64 ((0 : Nat) : Int)] w (SP w b g h S (stp S d 0).1 (stp S d 0).2) := by
  have T := R.th 0 (by omega)
  obtain ⟨rt, rb, rp, _⟩ := id R
  rcases hq : q.th 0 with ⟨on, op, made, v, t, bb, won⟩
  rw [hq] at T
  simp only [TR, hp] at T
  rw [stp_7 S d 0 hp]
  obtain ⟨rfl, rfl, rfl, rfl⟩ := T
  split
  · rename_i hc
    exact SP.of (R.set 0 (by simp [TR, rt, hc, hwon])) (mstep_pop m 2 _ _ _ _ (by omega) hq (fun W hW => q3 hW _ _ _ _ _ _))
  · rename_i hc
    exact SP.of (R.set 0 (by simp [TR, rt]; omega)) (mstep_pop m 2 _ _ _ _ (by omega) hq (fun W hW => q3 hW _ _ _ _ _ _))
theorem b8 (m : IsM w b g h S q) (R : Rel d q) (hs : Sd d 0) (hp : (d.th 0).pc = 8) :
    Calls Try.prog 16 #[.pointer (some ⟨b, 0, none⟩), .int .i64 ((0 : Nat) : Int)] w (SP w b g h S (stp S d 0).1 (stp S d 0).2) := by
  have T := R.th 0 (by omega)
  obtain ⟨rt, rb, rp, _⟩ := id R
  rcases hq : q.th 0 with ⟨on, op, made, v, t, bb, won⟩
  rw [hq] at T
  simp only [TR, hp] at T
  rw [stp_8 S d 0 hp]
  obtain ⟨rfl, rfl, rfl, rfl, rfl, hle⟩ := T
  split
  · rename_i hc
    rw [← rp]
    exact SP.of ((R).set 0 TR.zero) (mstep_pop m 3 _ _ _ _ (by omega) hq (fun W hW => q4t hW _ _ _ _ _ _ (by show Hid ((q.th 0).op = 1); rw [hq]; exact hide rfl) ⟨hs.pb (.inr hp), (hs.b (by omega)).2⟩ hc))
  · rename_i hc
    exact SP.of (R.set 0 (by simp [TR, rp])) (mstep_pop m 3 _ _ _ _ (by omega) hq (fun W hW => q4n hW _ _ _ _ _ _ ⟨hs.pb (.inr hp), (hs.b (by omega)).2⟩ hle (by omega)))
theorem b9 (m : IsM w b g h S q) (R : Rel d q) (hs : Sd d 0) (hp : (d.th 0).pc = 9) :
    Calls Try.prog 16 #[.pointer (some ⟨b, 0, none⟩), .int .i64 ((0 : Nat) : Int)] w (SP w b g h S (stp S d 0).1 (stp S d 0).2) := by
  have T := R.th 0 (by omega)
  obtain ⟨rt, rb, rp, _⟩ := id R
  rcases hq : q.th 0 with ⟨on, op, made, v, t, bb, won⟩
  rw [hq] at T
  simp only [TR, hp] at T
  rw [stp_9 S d 0 hp]
  obtain ⟨rfl, rfl, rfl, rfl, rfl, rfl⟩ := T
  split
  · rename_i hc
    rw [hc]
    exact SP.of ((R.wtop _).set 0 (by simp [TR])) (mstep_pop m 4 _ _ _ _ (by omega) hq (fun W hW => q5y hW _ _ _ _ _ _ (hs.t (by omega)) (by rw [rt]; exact hc)))
  · rename_i hc
    exact SP.of (R.set 0 (by simp [TR])) (mstep_pop m 4 _ _ _ _ (by omega) hq (fun W hW => q5n hW _ _ _ _ _ _ (by rw [rt]; exact hc)))
theorem b10 (m : IsM w b g h S q) (R : Rel d q) (hs : Sd d 0) (hp : (d.th 0).pc = 10) :
    Calls Try.prog 16 #[.pointer (some ⟨b, 0, none⟩), .int .i64 ((0 : Nat) : Int)] w (SP w b g h S (stp S d 0).1 (stp S d 0).2) := by
  have T := R.th 0 (by omega)
  obtain ⟨rt, rb, rp, _⟩ := id R
  rcases hq : q.th 0 with ⟨on, op, made, v, t, bb, won⟩
  rw [hq] at T
  simp only [TR, hp] at T
  rw [stp_10 S d 0 hp]
  obtain ⟨rfl, rfl, rfl, ⟨rfl, hlt, hw⟩ | ⟨rfl, rfl, hv⟩⟩ := T
  · rw [if_neg (by rw [hw]; simp)]
    exact SP.of ((R.wbot _).set 0 TR.zero) (mstep_pop m 3 _ _ _ _ (by omega) hq (fun W hW => q4e hW _ _ _ _ _ _ (by show Hid ((q.th 0).op = 1); rw [hq]; exact hide rfl) (hs.b (by omega)) hlt))
  · split
    · rename_i hc
      rw [← hv hc]
      exact SP.of ((R.wbot _).set 0 TR.zero) (mstep_pop m 5 _ _ _ _ (by omega) hq (fun W hW => q6y hW _ _ _ _ _ _ (by show Hid ((q.th 0).op = 1); rw [hq]; exact hide rfl) (hs.b (by omega)) hc))
    · rename_i hc
      exact SP.of ((R.wbot _).set 0 TR.zero) (mstep_pop m 5 _ _ _ _ (by omega) hq (fun W hW => q6n hW _ _ _ _ _ _ (by show Hid ((q.th 0).op = 1); rw [hq]; exact hide rfl) (hs.b (by omega)) (by simpa using hc)))
theorem b11 (m : IsM w b g h S q) (R : Rel d q) {k : Nat} (hk : k < 8) (hs : Sd d k) (hp : (d.th k).pc = 11) :
    Calls Try.prog 16 #[.pointer (some ⟨b, 0, none⟩), .int .i64 (k : Int)] w (SP w b g h S (stp S d k).1 (stp S d k).2) := by
  have T := R.th k hk
  obtain ⟨rt, rb, rp, _⟩ := id R
  rcases hq : q.th k with ⟨on, op, made, v, t, bb, won⟩
  rw [hq] at T
  simp only [TR, hp] at T
  rw [stp_11 S d k hp]
  obtain ⟨rfl, rfl, rfl⟩ := T
  exact SP.of (R.set k (by simp [TR, rt])) (mstep_steal m hk 0 _ _ _ _ (by omega) hq (fun W hW => r1 hW hk _ _ _ _ _ _))
theorem b12 (m : IsM w b g h S q) (R : Rel d q) {k : Nat} (hk : k < 8) (hs : Sd d k) (hp : (d.th k).pc = 12) :
    Calls Try.prog 16 #[.pointer (some ⟨b, 0, none⟩), .int .i64 (k : Int)] w (SP w b g h S (stp S d k).1 (stp S d k).2) := by
  have T := R.th k hk
  obtain ⟨rt, rb, rp, _⟩ := id R
  rcases hq : q.th k with ⟨on, op, made, v, t, bb, won⟩
  rw [hq] at T
  simp only [TR, hp] at T
  rw [stp_12 S d k hp]
  obtain ⟨rfl, rfl, rfl, rfl⟩ := T
  split
  · rename_i hc
    exact SP.of ((R).set k TR.zero) (mstep_steal m hk 1 _ _ _ _ (by omega) hq (fun W hW => r2y hW hk _ _ _ _ _ _ (by show Hid ((q.th k).op = 2); rw [hq]; exact hide rfl) (by rw [rb]; exact hc)))
  · rename_i hc
    exact SP.of (R.set k (by simp [TR])) (mstep_steal m hk 1 _ _ _ _ (by omega) hq (fun W hW => r2n hW hk _ _ _ _ _ _ (by rw [rb]; omega)))
theorem b13 (m : IsM w b g h S q) (R : Rel d q) {k : Nat} (hk : k < 8) (hs : Sd d k) (hp : (d.th k).pc = 13) :
    Calls Try.prog 16 #[.pointer (some ⟨b, 0, none⟩), .int .i64 (k : Int)] w (SP w b g h S (stp S d k).1 (stp S d k).2) := by
  have T := R.th k hk
  obtain ⟨rt, rb, rp, _⟩ := id R
  rcases hq : q.th k with ⟨on, op, made, v, t, bb, won⟩
  rw [hq] at T
  simp only [TR, hp] at T
  rw [stp_13 S d k hp]
  obtain ⟨rfl, rfl, rfl, rfl⟩ := T
  exact SP.of (R.set k (by simp [TR, rp])) (mstep_steal m hk 2 _ _ _ _ (by omega) hq (fun W hW => r3 hW hk _ _ _ _ _ _ ⟨hs.pt hp, (hs.t (by omega)).2⟩))
theorem b14 (m : IsM w b g h S q) (R : Rel d q) {k : Nat} (hk : k < 8) (hs : Sd d k) (hp : (d.th k).pc = 14) :
    Calls Try.prog 16 #[.pointer (some ⟨b, 0, none⟩), .int .i64 (k : Int)] w (SP w b g h S (stp S d k).1 (stp S d k).2) := by
  have T := R.th k hk
  obtain ⟨rt, rb, rp, _⟩ := id R
  rcases hq : q.th k with ⟨on, op, made, v, t, bb, won⟩
  rw [hq] at T
  simp only [TR, hp] at T
  rw [stp_14 S d k hp]
  obtain ⟨rfl, rfl, rfl, rfl, rfl⟩ := T
  split
  · rename_i hc
    rw [hc]
    exact SP.of ((R.wtop _).set k TR.zero) (mstep_steal m hk 3 _ _ _ _ (by omega) hq (fun W hW => r4y hW hk _ _ _ _ _ _ (by show Hid ((q.th k).op = 2); rw [hq]; exact hide rfl) (hs.t (by omega)) (by rw [rt]; exact hc)))
  · rename_i hc
    exact SP.of ((R).set k TR.zero) (mstep_steal m hk 3 _ _ _ _ (by omega) hq (fun W hW => r4n hW hk _ _ _ _ _ _ (by show Hid ((q.th k).op = 2); rw [hq]; exact hide rfl) (by rw [rt]; exact hc)))
end

theorem own_won {S : Nat} {d : Dq} {L K : List Int} (I : Inv S d L K) (hp : (d.th 0).pc = 7) : (d.th 0).won = false := by
  rcases I.own with h | h | h | h | h | h | h | h | h | h | h
  all_goals first | (exfalso; omega) | exact h.2.2.2.2

/-- a step of the document's deque, where the program's has one -/
theorem mstep_busy {w : World} {b g h S : Nat} {d : Dq} {q : Mq} {L K : List Int} (m : IsM w b g h S q) (R : Rel d q) (I : Inv S d L K) {k : Nat} (hk : k < 8) (hs : Sd d k) :
    Calls Try.prog 16 #[.pointer (some ⟨b, 0, none⟩), .int .i64 (k : Int)] w (SP w b g h S (stp S d k).1 (stp S d k).2) := by
  have hpc := hs.pc
  rcases Nat.eq_zero_or_pos k with rfl | h0
  · have h10 : (d.th 0).pc ≤ 10 := by have hO := I.own; unfold OwnI at hO; omega
    have : (d.th 0).pc = 1 ∨ (d.th 0).pc = 2 ∨ (d.th 0).pc = 3 ∨ (d.th 0).pc = 4 ∨ (d.th 0).pc = 5 ∨ (d.th 0).pc = 6 ∨ (d.th 0).pc = 7 ∨ (d.th 0).pc = 8 ∨ (d.th 0).pc = 9 ∨ (d.th 0).pc = 10 := by omega
    rcases this with hp | hp | hp | hp | hp | hp | hp | hp | hp | hp
    · exact b1 m R hs hp
    · exact b2 m R hs hp
    · exact b3 m R hs hp
    · exact b4 m R hs hp
    · exact b5 m R hs hp
    · exact b6 m R hs hp
    · exact b7 m R hs hp (own_won I hp)
    · exact b8 m R hs hp
    · exact b9 m R hs hp
    · exact b10 m R hs hp
  · have hT := I.th k h0 hk
    have : (d.th k).pc = 11 ∨ (d.th k).pc = 12 ∨ (d.th k).pc = 13 ∨ (d.th k).pc = 14 := by unfold ThI at hT; omega
    rcases this with hp | hp | hp | hp
    · exact b11 m R hk hs hp
    · exact b12 m R hk hs hp
    · exact b13 m R hk hs hp
    · exact b14 m R hk hs hp

end Go.Proofs.Ytingpopcdihclaa
