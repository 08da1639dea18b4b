/-
  A queue into which many put, as a plain record; an access as a plain function. Of no program.
-/
import Derived.Test.YtingpopcdihclabKit
namespace Go.Proofs.Ytingpopcdihclab
set_option linter.unusedVariables false

/-- what a thread has under way: its next access (0: nothing), its node, the head as it was read -/
structure Rq where
  pc : Nat
  node : Option Nat
  prev : Option Nat
def Rq.zero : Rq := ⟨0, none, none⟩

/-- a queue: its nodes, their values and nexts, the two words, the threads -/
structure Qu where
  ids : List Nat
  v : Nat → Int
  nx : Nat → Option Nat
  head : Nat
  tail : Nat
  th : Nat → Rq

/-- what a step came to -/
structure Qn where
  over : Bool
  take : Bool
  v : Int
  err : Int
def Qn.none : Qn := ⟨false, false, 0, 0⟩

def Qu.set (q : Qu) (k : Nat) (r : Rq) : Qu := { q with th := fun i => if i = k then r else q.th i }
def Qu.nxt (q : Qu) (x : Nat) (y : Option Nat) : Qu := { q with nx := fun i => if i = x then y else q.nx i }
def Qu.born (q : Qu) (x : Nat) (u : Int) : Qu := { q with ids := q.ids ++ [x], v := fun i => if i = x then u else q.v i, nx := fun i => if i = x then none else q.nx i }
def Qu.whead (q : Qu) (x : Nat) : Qu := { q with head := x }
def Qu.wtail (q : Qu) (x : Nat) : Qu := { q with tail := x }

theorem qset_th (q : Qu) (k : Nat) (r : Rq) : (q.set k r).th k = r := by simp [Qu.set]
theorem qset_ne (q : Qu) {i k : Nat} (r : Rq) (h : i ≠ k) : (q.set k r).th i = q.th i := by simp [Qu.set, h]

/-- an access -/
def qstp (q : Qu) (k : Nat) : Qu × Qn :=
  if k = 0 then
    if (q.th 0).pc = 1 then (q.set 0 ⟨2, q.nx q.tail, none⟩, Qn.none)
    else match (q.th 0).node with
      | some n => ((q.wtail n).set 0 Rq.zero, ⟨true, true, q.v n, 0⟩)
      | none => (q.set 0 Rq.zero, ⟨true, true, 0, if q.head = q.tail then 8 else 14⟩)
  else
    match (q.th k).pc, (q.th k).node, (q.th k).prev with
    | 1, some x, _ => ((q.nxt x none).set k ⟨2, some x, none⟩, Qn.none)
    | 2, some x, _ => ((q.whead x).set k ⟨3, some x, some q.head⟩, Qn.none)
    | _, some x, some p => ((q.nxt p (some x)).set k Rq.zero, ⟨true, false, q.v x, 0⟩)
    | _, _, _ => (q, Qn.none)

theorem qstp_t1 (q : Qu) (h : q.th 0 = ⟨1, none, none⟩) : qstp q 0 = (q.set 0 ⟨2, q.nx q.tail, none⟩, Qn.none) := by unfold qstp; rw [if_pos rfl, h, if_pos rfl]
theorem qstp_t2 (q : Qu) {n : Nat} (h : q.th 0 = ⟨2, some n, none⟩) : qstp q 0 = ((q.wtail n).set 0 Rq.zero, ⟨true, true, q.v n, 0⟩) := by unfold qstp; rw [if_pos rfl, h, if_neg (show ¬ (2 : Nat) = 1 by decide)]
theorem qstp_t3 (q : Qu) (h : q.th 0 = ⟨2, none, none⟩) : qstp q 0 = (q.set 0 Rq.zero, ⟨true, true, 0, if q.head = q.tail then 8 else 14⟩) := by unfold qstp; rw [if_pos rfl, h, if_neg (show ¬ (2 : Nat) = 1 by decide)]
theorem qstp_p1 (q : Qu) {k x : Nat} (hk : k ≠ 0) (h : q.th k = ⟨1, some x, none⟩) : qstp q k = ((q.nxt x none).set k ⟨2, some x, none⟩, Qn.none) := by unfold qstp; rw [if_neg hk, h]; rfl
theorem qstp_p2 (q : Qu) {k x : Nat} (hk : k ≠ 0) (h : q.th k = ⟨2, some x, none⟩) : qstp q k = ((q.whead x).set k ⟨3, some x, some q.head⟩, Qn.none) := by unfold qstp; rw [if_neg hk, h]; rfl
theorem qstp_p3 (q : Qu) {k x p : Nat} (hk : k ≠ 0) (h : q.th k = ⟨3, some x, some p⟩) : qstp q k = ((q.nxt p (some x)).set k Rq.zero, ⟨true, false, q.v x, 0⟩) := by unfold qstp; rw [if_neg hk, h]; rfl

/-- where a thread may be: the taker, a putter -/
inductive Pc : Nat → Rq → Prop
  | idle (k : Nat) : Pc k Rq.zero
  | t1 : Pc 0 ⟨1, none, none⟩
  | t2 (n : Option Nat) : Pc 0 ⟨2, n, none⟩
  | p1 {k : Nat} (hk : k ≠ 0) (x : Nat) : Pc k ⟨1, some x, none⟩
  | p2 {k : Nat} (hk : k ≠ 0) (x : Nat) : Pc k ⟨2, some x, none⟩
  | p3 {k : Nat} (hk : k ≠ 0) (x p : Nat) : Pc k ⟨3, some x, some p⟩

/-- nodes that are spoken of are there -/
structure Wf (q : Qu) : Prop where
  head : q.head ∈ q.ids
  tail : q.tail ∈ q.ids
  nx : ∀ x y, q.nx x = some y → y ∈ q.ids
  node : ∀ k x, (q.th k).node = some x → x ∈ q.ids
  prev : ∀ k x, (q.th k).prev = some x → x ∈ q.ids
  pc : ∀ k, Pc k (q.th k)

theorem Wf.set {q : Qu} (h : Wf q) {k : Nat} {r : Rq} (hn : ∀ x, r.node = some x → x ∈ q.ids) (hp : ∀ x, r.prev = some x → x ∈ q.ids) (hpc : Pc k r) : Wf (q.set k r) := by
  refine ⟨h.head, h.tail, h.nx, fun i x hx => ?_, fun i x hx => ?_, fun i => ?_⟩
  · by_cases e : i = k
    · subst e; rw [qset_th] at hx; exact hn x hx
    · rw [qset_ne q r e] at hx; exact h.node i x hx
  · by_cases e : i = k
    · subst e; rw [qset_th] at hx; exact hp x hx
    · rw [qset_ne q r e] at hx; exact h.prev i x hx
  · by_cases e : i = k
    · subst e; rw [qset_th]; exact hpc
    · rw [qset_ne q r e]; exact h.pc i

theorem Wf.zero {q : Qu} (h : Wf q) (k : Nat) : Wf (q.set k Rq.zero) := h.set (fun x e => (by cases e)) (fun x e => (by cases e)) (Pc.idle k)
theorem Wf.nxt {q : Qu} (h : Wf q) (x : Nat) {y : Option Nat} (hy : ∀ z, y = some z → z ∈ q.ids) : Wf (q.nxt x y) := by
  refine ⟨h.head, h.tail, fun a b e => ?_, h.node, h.prev, h.pc⟩
  by_cases ha : a = x
  · subst ha; simp only [Qu.nxt, if_pos] at e; exact hy b e
  · simp only [Qu.nxt, if_neg ha] at e; exact h.nx a b e
theorem Wf.whead {q : Qu} (h : Wf q) {x : Nat} (hx : x ∈ q.ids) : Wf (q.whead x) := ⟨hx, h.tail, h.nx, h.node, h.prev, h.pc⟩
theorem Wf.wtail {q : Qu} (h : Wf q) {x : Nat} (hx : x ∈ q.ids) : Wf (q.wtail x) := ⟨h.head, hx, h.nx, h.node, h.prev, h.pc⟩
theorem Wf.born {q : Qu} (h : Wf q) (x : Nat) (u : Int) : Wf (q.born x u) := by
  have up : ∀ {y}, y ∈ q.ids → y ∈ (q.born x u).ids := fun h => List.mem_append_left _ h
  refine ⟨up h.head, up h.tail, fun a b e => ?_, fun k y e => up (h.node k y e), fun k y e => up (h.prev k y e), h.pc⟩
  by_cases ha : a = x
  · subst ha; simp [Qu.born] at e
  · simp only [Qu.born, if_neg ha] at e; exact up (h.nx a b e)

theorem Wf.stp {q : Qu} (h : Wf q) {k : Nat} (hp : 0 < (q.th k).pc) : Wf (qstp q k).1 := by
  have hc := h.pc k
  generalize hr : q.th k = r at hc
  cases hc with
  | idle => rw [hr] at hp; simp [Rq.zero] at hp
  | t1 => rw [qstp_t1 q hr]; exact h.set (fun x e => h.nx _ _ e) (fun x e => (by cases e)) (Pc.t2 _)
  | t2 n =>
    cases n with
    | none => rw [qstp_t3 q hr]; exact h.zero 0
    | some n => rw [qstp_t2 q hr]; exact (h.wtail (h.node 0 n (by rw [hr]))).zero 0
  | p1 hk x => rw [qstp_p1 q hk hr]; exact (h.nxt x (y := none) (fun z e => by cases e)).set (fun y e => h.node k y (by rw [hr]; exact e)) (fun x e => (by cases e)) (Pc.p2 hk x)
  | p2 hk x => rw [qstp_p2 q hk hr]; exact (h.whead (h.node k x (by rw [hr]))).set (fun y e => h.node k y (by rw [hr]; exact e)) (fun x e => by cases e; exact h.head) (Pc.p3 hk x _)
  | p3 hk x p => rw [qstp_p3 q hk hr]; exact (h.nxt p (y := some x) (fun z e => h.node k z (by rw [hr]; exact e))).zero k

/-- an empty one: the node g -/
def Qu.new (g : Nat) : Qu := ⟨[g], fun _ => 0, fun _ => none, g, g, fun _ => Rq.zero⟩
theorem wf_new (g : Nat) : Wf (Qu.new g) := by
  refine ⟨by simp [Qu.new], by simp [Qu.new], fun x y e => by simp [Qu.new] at e, fun k x e => (by cases e), fun k x e => (by cases e), fun k => Pc.idle k⟩

end Go.Proofs.Ytingpopcdihclab
