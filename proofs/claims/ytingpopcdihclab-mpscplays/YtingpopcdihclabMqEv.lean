/-
  The five kinds of an access, told one by one; what a law knows of who has something under way. Of no program.
-/
import Derived.Test.YtingpopcdihclabMqInv
namespace Go.Proofs.Ytingpopcdihclab
set_option linter.unusedVariables false

/-- what an access of thread k's leaves alone -/
structure Rst (q q' : Qu) (k : Nat) : Prop where
  v : q'.v = q.v
  ids : q'.ids = q.ids
  th : ∀ j, j ≠ k → q'.th j = q.th j

theorem ev_rest {q : Qu} {k : Nat} {R R' : List Nat} {y : Qn} (h : Evq q k R R' y) : Rst q (qstp q k).1 k := ⟨h.rest.1, h.rest.2.1, h.rest.2.2⟩

theorem ev_t1 {q : Qu} {R : List Nat} (L : Lin q R) (hr : q.th 0 = ⟨1, none, none⟩) : ∃ q', qstp q 0 = (q', Qn.none) ∧ Lin q' R ∧ Rst q q' 0 ∧ (q'.th 0).pc = 2 :=
  ⟨_, qstp_t1 q hr, L.set (fun e => absurd rfl e) (fun e => absurd rfl e) (fun e => absurd rfl e) (fun e => absurd rfl e) (fun _ n e => (by injection e)) (fun e => (by simp at e)), ⟨rfl, rfl, fun j hj => qset_ne _ _ hj⟩, by rw [qset_th]⟩

theorem ev_take {q : Qu} {R : List Nat} (L : Lin q R) (W : Wf q) (hp : 0 < (q.th 0).pc) (h1 : (q.th 0).pc ≠ 1) :
    ∃ q' y R', qstp q 0 = (q', y) ∧ Lin q' R' ∧ Rst q q' 0 ∧ (q.th 0).pc = 2 ∧ q'.th 0 = Rq.zero ∧
      ((∃ n, R = n :: R' ∧ y = ⟨true, true, q.v n, 0⟩) ∨ (R = [] ∧ R' = [] ∧ y = ⟨true, true, 0, 8⟩) ∨ (R ≠ [] ∧ R' = R ∧ y = ⟨true, true, 0, 14⟩)) := by
  obtain ⟨R', L', E⟩ := lin_step L W hp
  have hR := ev_rest E
  obtain ⟨q', hq⟩ : ∃ q', (qstp q 0).1 = q' := ⟨_, rfl⟩
  obtain ⟨y, hy⟩ : ∃ y, (qstp q 0).2 = y := ⟨_, rfl⟩
  rw [hy] at E
  rw [hq] at L' hR
  refine ⟨q', y, R', Prod.ext hq hy, L', hR, ?_⟩
  cases E with
  | t1 _ hr => rw [hr] at h1; exact absurd rfl h1
  | t2 n R hr => rw [qstp_t2 q hr] at hq; subst hq; exact ⟨by rw [hr], qset_th _ _ _, .inl ⟨n, rfl, rfl⟩⟩
  | t3 hr => rw [qstp_t3 q hr] at hq; subst hq; exact ⟨by rw [hr], qset_th _ _ _, .inr (.inl ⟨rfl, rfl, rfl⟩)⟩
  | t4 R hr h => rw [qstp_t3 q hr] at hq; subst hq; exact ⟨by rw [hr], qset_th _ _ _, .inr (.inr ⟨h, rfl, rfl⟩)⟩
  | p1 _ _ _ h => exact absurd rfl h
  | p2 _ _ _ h => exact absurd rfl h
  | p3 _ _ _ _ h => exact absurd rfl h

theorem ev_p1 {q : Qu} {R : List Nat} (L : Lin q R) (W : Wf q) {k x : Nat} (hk : k ≠ 0) (hr : q.th k = ⟨1, some x, none⟩) : ∃ q', qstp q k = (q', Qn.none) ∧ Lin q' R ∧ Rst q q' k ∧ q'.th k = ⟨2, some x, none⟩ := by
  have hx := L.fresh k x hk (.inl hr)
  have e := qstp_p1 q hk hr
  rw [nxt_same hx.2] at e
  refine ⟨_, e, L.set (fun _ y z e => by rw [hr] at e; cases e) (fun _ y e => by rcases e with e | e <;> cases e; exact hx) (fun _ j y hj hj0 e e' => by cases e; exact L.own k j x (fun e => hj e.symm) hk hj0 (by rw [hr]) e') (fun _ y p e => (by cases e)) (fun e => absurd e hk) (fun e => (by simp at e)), ⟨rfl, rfl, fun j hj => qset_ne _ _ hj⟩, qset_th _ _ _⟩

theorem ev_p2 {q : Qu} {R : List Nat} (L : Lin q R) (W : Wf q) {k x : Nat} (hk : k ≠ 0) (hr : q.th k = ⟨2, some x, none⟩) : ∃ q' p, qstp q k = (q', Qn.none) ∧ Lin q' (R ++ [x]) ∧ Rst q q' k ∧ q'.th k = ⟨3, some x, some p⟩ :=
  ⟨_, _, qstp_p2 q hk hr, L.swap (W.node k x (by rw [hr])) hk hr, ⟨rfl, rfl, fun j hj => qset_ne _ _ hj⟩, qset_th _ _ _⟩

theorem ev_p3 {q : Qu} {R : List Nat} (L : Lin q R) {k x p : Nat} (hk : k ≠ 0) (hr : q.th k = ⟨3, some x, some p⟩) : ∃ q', qstp q k = (q', ⟨true, false, q.v x, 0⟩) ∧ Lin q' R ∧ Rst q q' k ∧ q'.th k = Rq.zero :=
  ⟨_, qstp_p3 q hk hr, L.join hk hr, ⟨rfl, rfl, fun j hj => qset_ne _ _ hj⟩, qset_th _ _ _⟩

/-- where a putter stands that isn't at its first access -/
theorem put_pc {q : Qu} (W : Wf q) {k : Nat} (hk : k ≠ 0) (hp : 0 < (q.th k).pc) (h1 : (q.th k).pc ≠ 1) : (∃ x, q.th k = ⟨2, some x, none⟩) ∨ ∃ x p, q.th k = ⟨3, some x, some p⟩ := by
  have hc := W.pc k
  generalize hr : q.th k = r at hc
  rw [hr] at hp h1
  cases hc with
  | idle => simp [Rq.zero] at hp
  | t1 => exact absurd rfl hk
  | t2 n => exact absurd rfl hk
  | p1 _ x => exact absurd rfl h1
  | p2 _ x => exact .inl ⟨x, rfl⟩
  | p3 _ x p => exact .inr ⟨x, p, rfl⟩

def upd (f : Nat → Int) (k : Nat) (x : Int) : Nat → Int := fun i => if i = k then x else f i
theorem upd_at (f : Nat → Int) (k : Nat) (x : Int) : upd f k x k = x := by simp [upd]
theorem upd_ne (f : Nat → Int) {k i : Nat} (x : Int) (h : i ≠ k) : upd f k x i = f i := by simp [upd, h]

/-- what the law knows of who has something under way: how many accesses were made, of what -/
def PM (q : Qu) (f g : Nat → Int) : Prop :=
  ∀ k, k < 8 → (q.th k).pc ≠ 1 ∧ (0 < (q.th k).pc → f k = (((q.th k).pc : Nat) : Int) - 1 ∧ ∀ x, (q.th k).node = some x → k ≠ 0 → g k = q.v x)

theorem PM.step {q q' : Qu} {f g : Nat → Int} {k : Nat} (h : PM q f g) (hv : q'.v = q.v) (hth : ∀ j, j ≠ k → q'.th j = q.th j) (c : Int) (h1 : (q'.th k).pc ≠ 1)
    (h2 : 0 < (q'.th k).pc → c = (((q'.th k).pc : Nat) : Int) - 1 ∧ ∀ x, (q'.th k).node = some x → k ≠ 0 → g k = q.v x) : PM q' (upd f k c) g := by
  intro j hj
  by_cases e : j = k
  · subst e
    rw [upd_at, hv]
    exact ⟨h1, h2⟩
  · rw [hth j e, upd_ne f c e, hv]
    exact h j hj

theorem PM.beg {q q' : Qu} {f g : Nat → Int} {k x : Nat} {u c : Int} (h : PM q f g) (W : Wf q) (hx : x ∉ q.ids) (hv : q'.v = fun i => if i = x then u else q.v i) (hth : ∀ j, j ≠ k → q'.th j = q.th j)
    (h1 : q'.th k = ⟨2, some x, none⟩) (hc : c = 1) : PM q' (upd f k c) (upd g k u) := by
  intro j hj
  by_cases e : j = k
  · subst e
    rw [upd_at, upd_at, hv, h1]
    exact ⟨by show (2 : Nat) ≠ 1; omega, fun _ => ⟨by rw [hc]; rfl, fun y hy _ => by cases hy; simp⟩⟩
  · rw [hth j e, upd_ne f c e, upd_ne g u e, hv]
    refine ⟨(h j hj).1, fun hp => ⟨((h j hj).2 hp).1, fun y hy h0 => ?_⟩⟩
    have hne : y ≠ x := fun ey => hx (ey ▸ W.node j y hy)
    show g j = if y = x then u else q.v y
    rw [if_neg hne]
    exact ((h j hj).2 hp).2 y hy h0

end Go.Proofs.Ytingpopcdihclab
