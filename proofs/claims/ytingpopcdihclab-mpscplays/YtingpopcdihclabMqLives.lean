/-
  A queue that is whole; the head of all laws of this layer.
-/
import Derived.Test.YtingpopcdihclabMqAll
namespace Go.Proofs.Ytingpopcdihclab
open Go.RowKit
set_option linter.unusedVariables false
set_option maxRecDepth 8192

/-- the queue at block b, its blocks from lo on -/
structure Mp (w : World) (lo b : Nat) (q : Qu) : Prop where
  is : IsQ w lo b q
  wf : Wf q

/-- a block of a queue's -/
def NQ (w : World) (k : Nat) : Prop := (∃ cs, w.heap[k]? = some (.cells cs 66 (0, 0))) ∨ ∃ cs, w.heap[k]? = some (.cells cs 61 (0, 0))

/-- of what was there only queues' blocks from lo on have turned -/
abbrev FrQ (lo : Nat) (w w' : World) := Fr (fun k => lo ≤ k ∧ NQ w k) w w'

theorem IsQ.nq {w : World} {lo b : Nat} {q : Qu} (h : IsQ w lo b q) {k : Nat} (hk : k = b ∨ k ∈ q.ids) : lo ≤ k ∧ NQ w k := by
  rcases hk with rfl | hk
  · obtain ⟨cs, h1, _⟩ := h.blk
    exact ⟨h.lob, .inl ⟨cs, h1⟩⟩
  · exact ⟨(h.nd k hk).1, .inr ⟨_, (h.nd k hk).2⟩⟩

theorem FrI.q {w w' : World} {lo b : Nat} {q : Qu} (h : IsQ w lo b q) (hf : FrI b q.ids w w') : FrQ lo w w' := hf.mono (fun i _ hk => h.nq hk)

/-- what is no queue's block stays -/
theorem nonq {w : World} {k lo : Nat} {cs : Array Value} {T : TypeId} (h : w.heap[k]? = some (.cells cs T (0, 0))) (h1 : T ≠ 66) (h2 : T ≠ 61) : ¬ (lo ≤ k ∧ NQ w k) := by
  rintro ⟨_, ⟨c, e⟩ | ⟨c, e⟩⟩
  · rw [h] at e; cases e; exact h1 rfl
  · rw [h] at e; cases e; exact h2 rfl

theorem Mp.fr {P : Nat → Prop} {w w' : World} {lo b : Nat} {q : Qu} (h : Mp w lo b q) (hf : Fr P w w') (hP : ∀ k, lo ≤ k ∧ NQ w k → ¬ P k) : Mp w' lo b q :=
  ⟨h.is.fr hf (hP b (h.is.nq (.inl rfl))) (fun x hx => hP x (h.is.nq (.inr hx))), h.wf⟩
theorem Mp.up {w w' : World} {lo b : Nat} {q : Qu} (h : Mp w lo b q) (hf : Fr (fun _ => False) w w') : Mp w' lo b q := h.fr hf (fun _ _ h => h)
theorem Mp.al {w : World} {lo b : Nat} {q : Qu} (h : Mp w lo b q) (o : Obj) : Mp (w.alloc o) lo b q := ⟨h.is.al o, h.wf⟩
theorem Mp.same {w w' : World} {lo b : Nat} {q : Qu} (h : Mp w lo b q) (e : w'.heap = w.heap) : Mp w' lo b q := ⟨h.is.same e, h.wf⟩

theorem mnew (w : World) :
    Calls Try.prog 10 #[] w fun e w' => e = .returned (.pointer (some ⟨w.heap.size + 1, 0, none⟩)) ∧ Mp w' w.heap.size (w.heap.size + 1) (Qu.new w.heap.size) ∧ Fr (fun _ => False) w w' :=
  (qnew w).mono fun e w' ⟨h1, h2, h3⟩ => ⟨h1, ⟨h2, wf_new _⟩, h3⟩

theorem mstep {w : World} {lo b : Nat} {q : Qu} (h : Mp w lo b q) {k : Nat} (hk : k < 8) (hp : 0 < (q.th k).pc) :
    Calls Try.prog 14 #[.pointer (some ⟨b, 0, none⟩), .int .i64 (k : Int)] w fun e w' => e = .returned (.tuple #[qnV (qstp q k).2, .int .i64 0]) ∧ Mp w' lo b (qstp q k).1 ∧ FrQ lo w w' :=
  (step_busy h.is h.wf hk hp).mono fun e w' ⟨h1, h2, h3⟩ => ⟨h1, ⟨h2, h.wf.stp hp⟩, FrI.q h.is h3⟩

theorem mbegin0 {w : World} {lo b : Nat} {q : Qu} (h : Mp w lo b q) (hp : q.th 0 = Rq.zero) (v : Int) :
    Calls Try.prog 12 #[.pointer (some ⟨b, 0, none⟩), .int .i64 ((0 : Nat) : Int), .int .i64 v] w fun e w' => e = .returned (.int .i64 0) ∧ Mp w' lo b (q.set 0 ⟨1, none, none⟩) ∧ FrQ lo w w' :=
  (begin_take h.is hp v).mono fun e w' ⟨h1, h2, h3⟩ => ⟨h1, ⟨h2, h.wf.set (fun x e => (by cases e)) (fun x e => (by cases e)) Pc.t1⟩, FrI.q h.is h3⟩

theorem mbegin {w : World} {lo b : Nat} {q : Qu} (h : Mp w lo b q) {k : Nat} (hk : k < 8) (hk0 : k ≠ 0) (hp : q.th k = Rq.zero) (hl : q.ids.length < 65537) (v : Int) :
    Calls Try.prog 12 #[.pointer (some ⟨b, 0, none⟩), .int .i64 (k : Int), .int .i64 v] w fun e w' => ∃ x, x ∉ q.ids ∧ e = .returned (.int .i64 0) ∧ Mp w' lo b ((q.born x v).set k ⟨1, some x, none⟩) ∧ FrQ lo w w' :=
  (begin_put h.is hk hk0 hp hl (List.length_pos_of_mem h.wf.head) v).mono fun e w' ⟨h1, h2, h3⟩ =>
    ⟨_, h.is.fresh (Nat.le_refl _), h1, ⟨h2, (h.wf.born _ v).set (fun x e => (by cases e; exact List.mem_append_right _ (by simp))) (fun x e => (by cases e)) (Pc.p1 hk0 _)⟩, FrI.q h.is h3⟩

theorem mitems {w : World} {lo b : Nat} {q : Qu} (h : Mp w lo b q) {l : List Nat} (hC : Chn q (q.nx q.tail) l) (hl : l.length ≤ 100000) :
    Calls Try.prog 18 #[.pointer (some ⟨b, 0, none⟩)] w fun e w' => ∃ v, e = .returned v ∧ LS w' w.heap.size v (l.map q.v) ∧ Fr (fun _ => False) w w' :=
  items_calls h.is h.wf hC hl

/-- the head's queue, step by step -/
def la (g x : Nat) : Qu := ((Qu.new g).born x 7).set 3 ⟨1, some x, none⟩
def lb (g x : Nat) : Qu := ((la g x).nxt x none).set 3 ⟨2, some x, none⟩
def lc (g x : Nat) : Qu := ((lb g x).whead x).set 3 ⟨3, some x, some g⟩
def ld (g x : Nat) : Qu := (lc g x).set 0 ⟨1, none, none⟩
def le' (g x : Nat) : Qu := (ld g x).set 0 ⟨2, none, none⟩
def lf (g x : Nat) : Qu := (le' g x).set 0 Rq.zero
def lg (g x : Nat) : Qu := ((lf g x).nxt g (some x)).set 3 Rq.zero
theorem la_stp (g x : Nat) : qstp (la g x) 3 = (lb g x, Qn.none) := qstp_p1 _ (by decide) rfl
theorem lb_stp (g x : Nat) : qstp (lb g x) 3 = (lc g x, Qn.none) := qstp_p2 _ (by decide) rfl
theorem ld_stp (g x : Nat) : qstp (ld g x) 0 = (le' g x, Qn.none) := by
  rw [qstp_t1 _ rfl]
  have : (ld g x).nx (ld g x).tail = none := by simp [ld, lc, lb, la, Qu.set, Qu.nxt, Qu.whead, Qu.born, Qu.new]
  rw [this]; rfl
theorem le_stp {g x : Nat} (h : x ≠ g) : qstp (le' g x) 0 = (lf g x, ⟨true, true, 0, 14⟩) := by
  rw [qstp_t3 _ rfl, if_neg (show ¬ (le' g x).head = (le' g x).tail from h)]; rfl
theorem lf_stp (g x : Nat) : qstp (lf g x) 3 = (lg g x, ⟨true, false, 7, 0⟩) := by
  rw [qstp_p3 (p := g) (x := x) _ (by decide) rfl]
  have : (lf g x).v x = 7 := by simp [lf, le', ld, lc, lb, la, Qu.set, Qu.nxt, Qu.whead, Qu.born, Qu.new]
  rw [this]; rfl
theorem lg_chn {g x : Nat} (h : x ≠ g) : Chn (lg g x) ((lg g x).nx (lg g x).tail) [x] := by
  have e : (lg g x).nx g = some x := by simp [lg, Qu.set, Qu.nxt]
  refine ⟨e, by simp [lg, lf, le', ld, lc, lb, la, Qu.set, Qu.nxt, Qu.whead, Qu.born, Qu.new], ?_⟩
  show (lg g x).nx x = none
  simp [lg, lf, le', ld, lc, lb, la, Qu.set, Qu.nxt, Qu.whead, Qu.born, Qu.new, h]

set_option maxHeartbeats 2000000 in
theorem lives_calls (w : World) :
    Calls Try.prog 9 #[] w fun e w' => e = .returned (.bool true) ∧ Fr (fun _ => False) w w' := by
  obtain ⟨G, hG⟩ : ∃ G, w.heap.size = G := ⟨_, rfl⟩
  have HN := hide (mnew w)
  rw [hG] at HN
  have HG := hide hG
  clear hG
  go_enter Try.func9, Try.ntmps9
  go_wp2_with fail
  refine (unhide HN).mono ?_
  rintro e w1 ⟨rfl, h1, hF1⟩
  have HB := hide (mbegin h1 (k := 3) (by omega) (by omega) rfl (by simp [Qu.new]) 7)
  go_wp2_with fail
  refine (unhide HB).mono ?_
  rintro e w2 ⟨x, hx, rfl, h2, hF2⟩
  replace hx : x ≠ G := by simpa [Qu.new] using hx
  replace h2 : Mp w2 G (G + 1) (la G x) := h2
  have HS2 := hide (mstep h2 (k := 3) (by omega) (by show 0 < 1; omega))
  rw [la_stp] at HS2
  go_wp2_with fail
  refine (unhide HS2).mono ?_
  rintro e w3 ⟨rfl, h3, hF3⟩
  have HS3 := hide (mstep h3 (k := 3) (by omega) (by show 0 < 2; omega))
  rw [lb_stp] at HS3
  go_wp2_with fail
  refine (unhide HS3).mono ?_
  rintro e w4 ⟨rfl, h4, hF4⟩
  have HB4 := hide (mbegin0 h4 rfl 0)
  go_wp2_with fail
  refine (unhide HB4).mono ?_
  rintro e w5 ⟨rfl, h5, hF5⟩
  replace h5 : Mp w5 G (G + 1) (ld G x) := h5
  have HS5 := hide (mstep h5 (k := 0) (by omega) (by show 0 < 1; omega))
  rw [ld_stp] at HS5
  go_wp2_with fail
  refine (unhide HS5).mono ?_
  rintro e w6 ⟨rfl, h6, hF6⟩
  have HS6 := hide (mstep h6 (k := 0) (by omega) (by show 0 < 2; omega))
  rw [le_stp hx] at HS6
  go_wp2_with fail
  refine (unhide HS6).mono ?_
  rintro e w7 ⟨rfl, h7, hF7⟩
  unfold qnV
  dsimp only
  have hsz7 := h7.is.lt
  have HS7 := hide (fun o => mstep (h7.al o) (k := 3) (by omega) (by show 0 < 3; omega))
  simp only [lf_stp] at HS7
  go_wp2_with fail
  refine (unhide HS7 _).mono ?_
  rintro e w8 ⟨rfl, h8, hF8⟩
  unfold qnV
  dsimp only
  have hB7 := hF8.blk (blk_new w7 _) (nonq (blk_new w7 _) (by decide) (by decide))
  have c0 := cell_at hB7 0
  have c1 := cell_at hB7 1
  have c2 := cell_at hB7 2
  have c3 := cell_at hB7 3
  simp at c0 c1 c2 c3
  have hl8 := lt_of_blk hB7
  have hne8 : ¬ w7.heap.size = w8.heap.size := by omega
  have HI := hide (fun o => mitems (h8.al o) (lg_chn hx) (by simp))
  clear hB7
  go_wp2_with fail
  refine (unhide HI _).mono ?_
  rintro e w9 ⟨v, rfl, hL, hF9⟩
  obtain ⟨a, cap, rfl, _⟩ := hL.cell
  go_wp2
  go_ret
  have hz := unhide HG
  have hf2 := hF1.trans hF2 (T := fun _ => False) (fun _ _ h => h) (fun i hi h => by have := h.1; omega)
  have hf4 := (hf2.trans hF3 (T := fun _ => False) (fun _ _ h => h) (fun i hi h => by have := h.1; omega)).trans hF4 (T := fun _ => False) (fun _ _ h => h) (fun i hi h => by have := h.1; omega)
  have hf6 := (hf4.trans hF5 (T := fun _ => False) (fun _ _ h => h) (fun i hi h => by have := h.1; omega)).trans hF6 (T := fun _ => False) (fun _ _ h => h) (fun i hi h => by have := h.1; omega)
  have hf8 := ((hf6.trans hF7 (T := fun _ => False) (fun _ _ h => h) (fun i hi h => by have := h.1; omega)).alloc _).trans hF8 (T := fun _ => False) (fun _ _ h => h) (fun i hi h => by have := h.1; omega)
  exact ⟨rfl, (hf8.alloc _).trans hF9 (fun _ _ h => h) (fun _ _ h => h)⟩

end Go.Proofs.Ytingpopcdihclab
