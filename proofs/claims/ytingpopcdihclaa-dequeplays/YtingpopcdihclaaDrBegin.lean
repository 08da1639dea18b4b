/-
  The document's Begin and New.
-/
import Derived.Test.YtingpopcdihclaaDrRel
namespace Go.Proofs.Ytingpopcdihclaa
open Go.RowKit
set_option linter.unusedVariables false
set_option maxRecDepth 8192

set_option maxHeartbeats 1000000 in
theorem mbegin_out {w : World} {b g h S : Nat} {q : Mq} (m : IsM w b g h S q) {n : Int} (hn : ¬ (0 ≤ n ∧ n < 8)) (op v : Int) :
    Calls Try.prog 14 #[.pointer (some ⟨b, 0, none⟩), .int .i64 n, .int .i64 op, .int .i64 v] w fun e w' => e = .returned (.int .i64 1) ∧ w = w' := by
  by_cases h0 : n < 0
  · clear hn
    go_enter Try.func14, Try.ntmps14
    go_wp2
    go_ret
    exact ⟨rfl, rfl⟩
  · have h1 : 0 ≤ n := by omega
    have h8 : 8 ≤ n := by omega
    clear hn h0
    go_enter Try.func14, Try.ntmps14
    go_wp2
    go_ret
    exact ⟨rfl, rfl⟩

set_option maxHeartbeats 1000000 in
theorem mbegin_op {w : World} {b g h S : Nat} {q : Mq} (m : IsM w b g h S q) {k : Nat} (hk : k < 8) (op v : Int) (hp : firstP k op = 0) :
    Calls Try.prog 14 #[.pointer (some ⟨b, 0, none⟩), .int .i64 (k : Int), .int .i64 op, .int .i64 v] w fun e w' => e = .returned (.int .i64 1) ∧ w = w' := by
  unfold firstP at hp
  by_cases h0 : k = 0
  · subst h0
    have e0 : (op == 0) = false := by
      simp only [beq_eq_false_iff_ne]; intro e; subst e; simp at hp
    have e1 : (op == 1) = false := by
      simp only [beq_eq_false_iff_ne]; intro e; subst e; simp at hp
    have e3 : (op != 0) = true := by simp [bne, e0]
    have e4 : (op != 1) = true := by simp [bne, e1]
    clear hp
    go_enter Try.func14, Try.ntmps14
    go_wp2
    go_ret
    exact ⟨rfl, rfl⟩
  · have e2 : (op == 2) = false := by
      simp only [beq_eq_false_iff_ne]; intro e; subst e; simp at hp; omega
    have ek : ((k : Int) == 0) = false := by
      simp only [beq_eq_false_iff_ne]; omega
    have hk0 : (0 : Int) < (k : Int) := by omega
    have hk' : (k : Int) < 8 := by omega
    have e3 : (op != 2) = true := by simp [bne, e2]
    clear hp
    go_enter Try.func14, Try.ntmps14
    go_wp2
    go_ret
    exact ⟨rfl, rfl⟩

theorem firstP_cases {k : Nat} {op : Int} (hp : 0 < firstP k op) : (k = 0 ∧ op = 0) ∨ (k = 0 ∧ op = 1) ∨ (0 < k ∧ op = 2) := by
  unfold firstP at hp
  by_cases a : (k : Int) = 0 ∧ op = 0
  · omega
  · rw [if_neg a] at hp
    by_cases c : (k : Int) = 0 ∧ op = 1
    · omega
    · rw [if_neg c] at hp
      by_cases d : (k : Int) ≠ 0 ∧ op = 2
      · omega
      · rw [if_neg d] at hp; omega

set_option maxHeartbeats 1000000 in
theorem mbegin_busy {w : World} {b g h S : Nat} {q : Mq} (m : IsM w b g h S q) {k : Nat} (hk : k < 8) (op v : Int) (hp : 0 < firstP k op) (hb : (q.th k).on = true) :
    Calls Try.prog 14 #[.pointer (some ⟨b, 0, none⟩), .int .i64 (k : Int), .int .i64 op, .int .i64 v] w fun e w' => e = .returned (.int .i64 14) ∧ w = w' := by
  obtain ⟨t0, t1, t2, t3, t4, t5, t6⟩ := m.ct hk rfl
  rw [hb] at t0
  have c3 := m.c3
  have hk' : (k : Int) < 8 := by omega
  rcases firstP_cases hp with ⟨rfl, rfl⟩ | ⟨rfl, rfl⟩ | ⟨h0, rfl⟩
  · clear hp hb
    go_enter Try.func14, Try.ntmps14
    go_wp2
    go_ret
    exact ⟨rfl, rfl⟩
  · clear hp hb
    go_enter Try.func14, Try.ntmps14
    go_wp2
    go_ret
    exact ⟨rfl, rfl⟩
  · clear hp hb
    have ek : ((k : Int) == 0) = false := by
      simp only [beq_eq_false_iff_ne]; omega
    have hk0 : (0 : Int) < (k : Int) := by omega
    go_enter Try.func14, Try.ntmps14
    go_wp2
    go_ret
    exact ⟨rfl, rfl⟩

/-- what a Begin lays in the document's thread -/
def mbeg (op v : Int) : Mt := ⟨true, op, 0, if op = 0 then v else 0, 0, 0, false⟩

set_option maxHeartbeats 2000000 in
theorem mbegin_ok {w : World} {b g h S : Nat} {q : Mq} (m : IsM w b g h S q) {k : Nat} (hk : k < 8) (op v : Int) (hp : 0 < firstP k op) (hb : (q.th k).on = false) :
    Calls Try.prog 14 #[.pointer (some ⟨b, 0, none⟩), .int .i64 (k : Int), .int .i64 op, .int .i64 v] w fun e w' => e = .returned (.int .i64 0) ∧ IsM w' b g h S (q.set k (mbeg op v)) ∧ FrM b g h w w' := by
  obtain ⟨t0, t1, t2, t3, t4, t5, t6⟩ := m.ct hk rfl
  rw [hb] at t0
  have c3 := m.c3
  have g0 := m.fh (k * 7)
  have g1 := m.fh (k * 7 + 1)
  have g2 := m.fh (k * 7 + 2)
  have g3 := m.fh (k * 7 + 3)
  have g4 := m.fh (k * 7 + 4)
  have g5 := m.fh (k * 7 + 5)
  have g6 := m.fh (k * 7 + 6)
  have hk' : (k : Int) < 8 := by omega
  have HM := hide (m.sth hk rfl (mbeg op v))
  have HF := hide (mset7_fr w h (k * 7) (mbeg op v))
  rcases firstP_cases hp with ⟨rfl, rfl⟩ | ⟨rfl, rfl⟩ | ⟨h0, rfl⟩
  · clear hp hb
    simp only [Nat.zero_mul, Nat.zero_add] at t0 t1 t2 t3 t4 t5 t6 g0 g1 g2 g3 g4 g5 g6
    go_enter Try.func14, Try.ntmps14
    go_wp2
    go_ret
    exact ⟨rfl, unhide HM, (unhide HF).mono (fun _ _ h => .inr (.inr h))⟩
  · clear hp hb
    simp only [Nat.zero_mul, Nat.zero_add] at t0 t1 t2 t3 t4 t5 t6 g0 g1 g2 g3 g4 g5 g6
    go_enter Try.func14, Try.ntmps14
    go_wp2
    go_ret
    exact ⟨rfl, unhide HM, (unhide HF).mono (fun _ _ h => .inr (.inr h))⟩
  · clear hp hb
    have ek : ((k : Int) == 0) = false := by
      simp only [beq_eq_false_iff_ne]; omega
    have hk0 : (0 : Int) < (k : Int) := by omega
    go_enter Try.func14, Try.ntmps14
    go_wp2
    go_ret
    exact ⟨rfl, unhide HM, (unhide HF).mono (fun _ _ h => .inr (.inr h))⟩

/-- both begin -/
theorem Rel.beg {d : Dq} {q : Mq} (R : Rel d q) {k : Nat} {op : Int} (hp : 0 < firstP k op) (v : Int) : Rel (d.set k ⟨firstP k op, v, 0, 0, false⟩) (q.set k (mbeg op v)) := by
  refine R.set k ?_
  rcases firstP_cases hp with ⟨rfl, rfl⟩ | ⟨rfl, rfl⟩ | ⟨h0, rfl⟩
  · simp [firstP, TR, mbeg]
  · simp [firstP, TR, mbeg]
  · simp [firstP, TR, mbeg, show ¬ k = 0 by omega]

theorem Rel.on {d : Dq} {q : Mq} (R : Rel d q) {k : Nat} (hk : k < 8) : (q.th k).on = decide (0 < (d.th k).pc) := by
  have T := R.th k hk
  rcases hq : q.th k with ⟨on, op, made, v, t, bb, won⟩
  rcases hr : d.th k with ⟨pc, rv, rt, rb, rw⟩
  rw [hq, hr] at T
  simp only [TR] at T
  match pc, T with
  | 0, T => exact T
  | 1, T => exact T.1
  | 2, T => exact T.1
  | 3, T => exact T.1
  | 4, T => exact T.1
  | 5, T => exact T.1
  | 6, T => exact T.1
  | 7, T => exact T.1
  | 8, T => exact T.1
  | 9, T => exact T.1
  | 10, T => exact T.1
  | 11, T => exact T.1
  | 12, T => exact T.1
  | 13, T => exact T.1
  | (n + 14), T => exact T.1.trans (by simp)

end Go.Proofs.Ytingpopcdihclaa
