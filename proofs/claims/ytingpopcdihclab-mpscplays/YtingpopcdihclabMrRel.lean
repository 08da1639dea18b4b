/-
  The queue's nodes numbered as the document numbers them; the document's calls told of the very same record.
-/
import Derived.Test.YtingpopcdihclabMrMore
import Derived.Test.YtingpopcdihclabMqRun
namespace Go.Proofs.Ytingpopcdihclab
open Go.RowKit
set_option linter.unusedVariables false
set_option maxRecDepth 8192

/-- a node's number -/
def num (q : Qu) (x : Nat) : Nat := q.ids.idxOf x
def nO (q : Qu) : Option Nat → Nat
  | some x => num q x
  | none => 0
def tI (q : Qu) (r : Rq) : Rt := ⟨decide (0 < r.pc), r.pc - 1, nO q r.node, nO q r.prev⟩
def rf (q : Qu) : Rf := ⟨q.ids.map q.v, q.ids.map (fun x => nO q (q.nx x)), num q q.head, num q q.tail, fun k => tI q (q.th k)⟩

/-- the first node is nobody's next, and no thread's own -/
structure Nm (q : Qu) : Prop where
  nd : q.ids.Nodup
  nx : ∀ x y, q.nx x = some y → 0 < num q y
  node : ∀ k x, (q.th k).node = some x → 0 < num q x

theorem idx_at {l : List Nat} {x : Nat} (h : x ∈ l) : l[l.idxOf x]? = some x := by
  have hl := List.idxOf_lt_length_iff.2 h
  rw [List.getElem?_eq_getElem hl]
  simp

theorem idx_lt {l : List Nat} {x : Nat} (h : x ∈ l) : l.idxOf x < l.length := List.idxOf_lt_length_iff.2 h
theorem idx_app {l : List Nat} {x y : Nat} (h : x ∈ l) : (l ++ [y]).idxOf x = l.idxOf x := by rw [List.idxOf_append, if_pos h]
theorem idx_new {l : List Nat} {x : Nat} (h : x ∉ l) : (l ++ [x]).idxOf x = l.length := by rw [List.idxOf_append, if_neg h]; simp

theorem rf_V {q : Qu} {x : Nat} (h : x ∈ q.ids) : (rf q).V[num q x]? = some (q.v x) := by
  show (q.ids.map q.v)[q.ids.idxOf x]? = _
  rw [List.getElem?_map, idx_at h]; rfl
theorem rf_N {q : Qu} {x : Nat} (h : x ∈ q.ids) : (rf q).N[num q x]? = some (nO q (q.nx x)) := by
  show (q.ids.map fun x => nO q (q.nx x))[q.ids.idxOf x]? = _
  rw [List.getElem?_map, idx_at h]; rfl

theorem rf_set (q : Qu) (k : Nat) (r : Rq) : rf (q.set k r) = (rf q).set k (tI q r) := by
  unfold rf Rf.set
  congr 1
  funext i
  show tI (q.set k r) (if i = k then r else q.th i) = if i = k then tI q r else tI q (q.th i)
  split <;> rfl
theorem rf_head (q : Qu) (x : Nat) : rf (q.whead x) = (rf q).whead (num q x) := rfl
theorem rf_tail (q : Qu) (x : Nat) : rf (q.wtail x) = (rf q).wtail (num q x) := rfl
theorem rf_nxt {q : Qu} (h : q.ids.Nodup) {x : Nat} (hx : x ∈ q.ids) (y : Option Nat) : rf (q.nxt x y) = (rf q).wN (num q x) (nO q y) := by
  have e : (q.ids.map fun z => nO q ((q.nxt x y).nx z)) = (q.ids.map fun z => nO q (q.nx z)).set (num q x) (nO q y) := by
    apply List.ext_getElem?
    intro i
    rw [List.getElem?_map, List.getElem?_set, List.getElem?_map]
    by_cases ei : num q x = i
    · subst ei
      have hl : num q x < (List.map (fun z => nO q (q.nx z)) q.ids).length := by rw [List.length_map]; exact idx_lt hx
      rw [if_pos rfl, if_pos hl]
      rw [show q.ids[num q x]? = some x from idx_at hx]
      simp [Qu.nxt]
    · rw [if_neg ei]
      cases hz : q.ids[i]? with
      | none => rfl
      | some z =>
        have hne : z ≠ x := by
          rintro rfl
          exact ei (nodup_at h (idx_at hx) hz)
        simp [Qu.nxt, hne]
  show (⟨_, _, _, _, _⟩ : Rf) = ⟨_, _, _, _, _⟩
  congr 1
theorem nO_born {q : Qu} {x : Nat} {u : Int} {y : Option Nat} (hy : ∀ z, y = some z → z ∈ q.ids) : nO (q.born x u) y = nO q y := by
  cases y with
  | none => rfl
  | some z => exact idx_app (hy z rfl)
theorem rf_born {q : Qu} (W : Wf q) {x : Nat} (hx : x ∉ q.ids) (u : Int) : rf (q.born x u) = (rf q).grow u := by
  have e1 : (q.ids ++ [x]).map (fun i => if i = x then u else q.v i) = q.ids.map q.v ++ [u] := by
    rw [List.map_append]
    congr 1
    · exact List.map_congr_left fun y hy => by rw [if_neg (fun e : y = x => hx (e ▸ hy))]
    · simp
  have e2 : (q.ids ++ [x]).map (fun z => nO (q.born x u) ((q.born x u).nx z)) = q.ids.map (fun z => nO q (q.nx z)) ++ [0] := by
    rw [List.map_append]
    congr 1
    · refine List.map_congr_left fun y hy => ?_
      have hne : y ≠ x := fun e => hx (e ▸ hy)
      rw [show (q.born x u).nx y = q.nx y by simp [Qu.born, hne]]
      exact nO_born fun z hz => W.nx y z hz
    · simp [Qu.born, nO]
  have e3 : num (q.born x u) q.head = num q q.head := idx_app W.head
  have e4 : num (q.born x u) q.tail = num q q.tail := idx_app W.tail
  have e5 : (fun k => tI (q.born x u) (q.th k)) = fun k => tI q (q.th k) := by
    funext k
    unfold tI
    rw [nO_born fun z hz => W.node k z hz, nO_born fun z hz => W.prev k z hz]
  show (⟨(q.ids ++ [x]).map (fun i => if i = x then u else q.v i), (q.ids ++ [x]).map (fun z => nO (q.born x u) ((q.born x u).nx z)), num (q.born x u) q.head, num (q.born x u) q.tail, fun k => tI (q.born x u) (q.th k)⟩ : Rf) = _
  rw [e1, e2, e3, e4, e5]
  rfl

theorem Nm.new (g : Nat) : Nm (Qu.new g) := ⟨by simp [Qu.new], fun x y e => (by simp [Qu.new] at e), fun k x e => (by cases e)⟩
theorem Nm.set {q : Qu} (h : Nm q) {k : Nat} {r : Rq} (hr : ∀ x, r.node = some x → 0 < num q x) : Nm (q.set k r) := by
  refine ⟨h.nd, h.nx, fun i x e => ?_⟩
  by_cases ei : i = k
  · subst ei; rw [qset_th] at e; exact hr x e
  · rw [qset_ne q r ei] at e; exact h.node i x e
theorem Nm.nxt {q : Qu} (h : Nm q) (x : Nat) {y : Option Nat} (hy : ∀ z, y = some z → 0 < num q z) : Nm (q.nxt x y) := by
  refine ⟨h.nd, fun a c e => ?_, h.node⟩
  by_cases ha : a = x
  · subst ha; simp only [Qu.nxt, if_pos] at e; exact hy c e
  · simp only [Qu.nxt, if_neg ha] at e; exact h.nx a c e
theorem Nm.born {q : Qu} (h : Nm q) (W : Wf q) {x : Nat} (hx : x ∉ q.ids) (u : Int) : Nm (q.born x u) := by
  refine ⟨?_, fun a c e => ?_, fun k y e => ?_⟩
  · show (q.ids ++ [x]).Nodup
    exact List.nodup_append.2 ⟨h.nd, by simp, fun a ha c hc => by
      have : c = x := by simpa using hc
      subst this
      exact fun e => hx (e ▸ ha)⟩
  · by_cases ha : a = x
    · subst ha; simp [Qu.born] at e
    · simp only [Qu.born, if_neg ha] at e
      show 0 < (q.ids ++ [x]).idxOf c
      rw [idx_app (W.nx a c e)]
      exact h.nx a c e
  · show 0 < (q.ids ++ [x]).idxOf y
    rw [idx_app (W.node k y e)]
    exact h.node k y e
theorem Nm.stp {q : Qu} (h : Nm q) (W : Wf q) {k : Nat} (hp : 0 < (q.th k).pc) : Nm (qstp q k).1 := by
  have hc := W.pc k
  generalize hr : q.th k = r at hc
  cases hc with
  | idle => rw [hr] at hp; simp [Rq.zero] at hp
  | t1 => rw [qstp_t1 q hr]; exact h.set (fun x e => h.nx _ _ e)
  | t2 n =>
    cases n with
    | none => rw [qstp_t3 q hr]; exact h.set (fun x e => (by cases e))
    | some n => rw [qstp_t2 q hr]; exact Nm.set (q := q.wtail n) ⟨h.nd, h.nx, h.node⟩ (fun x e => (by cases e))
  | p1 hk x => rw [qstp_p1 q hk hr]; exact (h.nxt x (y := none) (fun z e => (by cases e))).set (fun y e => h.node k y (by rw [hr]; exact e))
  | p2 hk x => rw [qstp_p2 q hk hr]; exact Nm.set (q := q.whead x) ⟨h.nd, h.nx, h.node⟩ (fun y e => h.node k y (by rw [hr]; exact e))
  | p3 hk x p => rw [qstp_p3 q hk hr]; exact (h.nxt p (y := some x) (fun z e => h.node k z (by rw [hr]; exact e))).set (fun y e => (by cases e))

variable {w : World} {lo b h gv gn cv cn : Nat} {q : Qu}

/-- a step of the document's -/
theorem rm_step (m : IsR w lo b h gv gn cv cn (rf q)) (W : Wf q) (N : Nm q) {k : Nat} (hk : k < 8) (hp : 0 < (q.th k).pc) :
    Calls Try.prog 15 #[.pointer (some ⟨b, 0, none⟩), .int .i64 (k : Int)] w fun e w' => e = .returned (.tuple #[qnV (qstp q k).2, .int .i64 0]) ∧ IsR w' lo b h gv gn cv cn (rf (qstp q k).1) ∧ FrR4 b h gv gn w w' := by
  have hc := W.pc k
  generalize hr : q.th k = r at hc
  have hth : (rf q).th k = tI q r := by show tI q (q.th k) = _; rw [hr]
  cases hc with
  | idle => rw [hr] at hp; simp [Rq.zero] at hp
  | t1 =>
    rw [qstp_t1 q hr]
    dsimp only
    rw [rf_set]
    refine rstep_take m (made := 0) (node := 0) (prev := 0) hth (by omega) (hide fun w1 m1 => ?_)
    exact rtake1 m1 0 (rf_N W.tail)
  | t2 n =>
    cases n with
    | none =>
      rw [qstp_t3 q hr]
      dsimp only
      rw [rf_set]
      refine rstep_take m (made := 1) (node := 0) (prev := 0) hth (by omega) (hide fun w1 m1 => ?_)
      by_cases e : q.head = q.tail
      · rw [if_pos e]
        exact rtake3 m1 0 (by show num q q.head = num q q.tail; rw [e])
      · rw [if_neg e]
        refine rtake4 m1 0 (fun he => e ?_)
        have h1 := idx_at W.head
        have h2 := idx_at W.tail
        have he' : q.ids.idxOf q.head = q.ids.idxOf q.tail := he
        rw [he', h2] at h1
        injection h1 with h1
        exact h1.symm
    | some n =>
      have hn := W.node 0 n (by rw [hr])
      rw [qstp_t2 q hr]
      dsimp only
      rw [show (q.wtail n).set 0 Rq.zero = (q.set 0 Rq.zero).wtail n from rfl, rf_tail, rf_set]
      refine rstep_take m (made := 1) (node := num q n) (prev := 0) hth (by omega) (hide fun w1 m1 => ?_)
      exact rtake2 m1 0 (N.node 0 n (by rw [hr])) (rf_V hn)
  | p1 hk0 x =>
    have hx := W.node k x (by rw [hr])
    rw [qstp_p1 q hk0 hr]
    dsimp only
    rw [rf_set, rf_nxt N.nd hx]
    refine rstep_put m (made := 0) (node := num q x) (prev := 0) hk (by omega) hth (by omega) (hide fun w1 m1 => ?_)
    exact rput1 m1 hk 0 (rf_N hx)
  | p2 hk0 x =>
    have hx := W.node k x (by rw [hr])
    rw [qstp_p2 q hk0 hr]
    dsimp only
    rw [rf_set, rf_head]
    refine rstep_put m (made := 1) (node := num q x) (prev := 0) hk (by omega) hth (by omega) (hide fun w1 m1 => ?_)
    exact rput2 m1 hk (num q x) 0
  | p3 hk0 x p =>
    have hx := W.node k x (by rw [hr])
    have hpp := W.prev k p (by rw [hr])
    rw [qstp_p3 q hk0 hr]
    dsimp only
    rw [rf_set, rf_nxt N.nd hpp]
    refine rstep_put m (made := 2) (node := num q x) (prev := num q p) hk (by omega) hth (by omega) (hide fun w1 m1 => ?_)
    exact rput3 m1 hk (rf_N hpp) (rf_V hx)

/-- what can be come to, by numbers -/
theorem rc_of {q : Qu} (W : Wf q) (N : Nm q) : ∀ {l : List Nat} {o : Option Nat}, (∀ z, o = some z → 0 < num q z) → Chn q o l → RC (rf q) (nO q o) (l.map q.v)
  | [], o, ho, h => by rw [show o = none from h]; rfl
  | x :: l, o, ho, ⟨e, hx, hc⟩ => by
    subst e
    exact ⟨ho x rfl, rf_V hx, _, rf_N hx, rc_of W N (fun z hz => N.nx x z hz) hc⟩

end Go.Proofs.Ytingpopcdihclab
