/-
  A queue into which many put, in memory; the end of an operation walked.
-/
import Derived.Test.YtingpopcdihclabProg
import Derived.Test.YtingpopcdihclabKit
import Derived.Test.YtingpopcdihclabMqPlain
import Derived.Laws.MakeOwn
import Derived.Laws.OwnMore
import Derived.Laws.EntriesVeiled
import Derived.Laws.ResultCell
import Derived.Deep.MidRow
import Derived.Deep.QuietTactic
import Derived.BigQuiet
import Derived.RegionTactic
import Derived.Deep.DeepFit
import Derived.Deep.RegionWith
import Derived.LaidEqlPtr
namespace Go.Proofs.Ytingpopcdihclab
open Go.RowKit
set_option linter.unusedVariables false
set_option maxRecDepth 8192

/-- a node's pointer -/
def pO : Option Nat → Value
  | some x => .pointer (some ⟨x, 0, none⟩)
  | none => .pointer none

/-- a thread's three cells -/
def RQ (cs : Array Value) (o : Nat) (r : Rq) : Prop :=
  cs[o]? = some (.int .i64 (r.pc : Int)) ∧ cs[o + 1]? = some (pO r.node) ∧ cs[o + 2]? = some (pO r.prev)

/-- a queue's cells -/
def QC (cs : Array Value) (q : Qu) : Prop :=
  cs.size = 27 ∧ cs[0]? = some (pO (some q.head)) ∧ cs[1]? = some (pO (some q.tail)) ∧ cs[2]? = some (.int .i64 ((q.ids.length : Int) - 1)) ∧ ∀ k, k < 8 → RQ cs (3 + k * 3) (q.th k)

/-- the queue at block b, its nodes in blocks of their own, all from lo on -/
structure IsQ (w : World) (lo b : Nat) (q : Qu) : Prop where
  blk : ∃ cs, w.heap[b]? = some (.cells cs 66 (0, 0)) ∧ QC cs q
  nd : ∀ x, x ∈ q.ids → lo ≤ x ∧ w.heap[x]? = some (.cells #[.int .i64 (q.v x), pO (q.nx x)] 61 (0, 0))
  lob : lo ≤ b

/-- of the blocks that were there none but the queue's and nodes' has turned -/
abbrev FrI (b : Nat) (I : List Nat) := Fr (fun k => k = b ∨ k ∈ I)

theorem IsQ.fr {P : Nat → Prop} {w w' : World} {lo b : Nat} {q : Qu} (h : IsQ w lo b q) (hf : Fr P w w') (hb : ¬ P b) (hn : ∀ x, x ∈ q.ids → ¬ P x) : IsQ w' lo b q := by
  obtain ⟨cs, h1, h2⟩ := h.blk
  exact ⟨⟨cs, hf.blk h1 hb, h2⟩, fun x hx => ⟨(h.nd x hx).1, hf.blk (h.nd x hx).2 (hn x hx)⟩, h.lob⟩
theorem IsQ.same {w w' : World} {lo b : Nat} {q : Qu} (h : IsQ w lo b q) (e : w'.heap = w.heap) : IsQ w' lo b q := by
  obtain ⟨h1, h2, h3⟩ := h
  exact ⟨by rw [e]; exact h1, fun x hx => by rw [e]; exact h2 x hx, h3⟩
theorem IsQ.drewN {w : World} {lo b : Nat} {q : Qu} (h : IsQ w lo b q) (n : Nat) : IsQ (w.drewN n) lo b q := h.same rfl
theorem IsQ.drew {w : World} {lo b : Nat} {q : Qu} (h : IsQ w lo b q) : IsQ w.drew lo b q := h.same rfl
theorem IsQ.al {w : World} {lo b : Nat} {q : Qu} (h : IsQ w lo b q) (o : Obj) : IsQ (w.alloc o) lo b q := h.fr ((Fr.refl (fun _ => False) w).alloc o) (fun h => h) (fun _ _ h => h)
theorem IsQ.lt {w : World} {lo b : Nat} {q : Qu} (h : IsQ w lo b q) : b < w.heap.size := by obtain ⟨cs, h1, _⟩ := h.blk; exact lt_of_blk h1
theorem IsQ.ltn {w : World} {lo b : Nat} {q : Qu} (h : IsQ w lo b q) {x : Nat} (hx : x ∈ q.ids) : x < w.heap.size := lt_of_blk (h.nd x hx).2
theorem IsQ.ne {w : World} {lo b : Nat} {q : Qu} (h : IsQ w lo b q) {x : Nat} (hx : x ∈ q.ids) : x ≠ b := by
  rintro rfl
  obtain ⟨cs, h1, _⟩ := h.blk
  have := (h.nd x hx).2
  rw [h1] at this
  cases this
theorem IsQ.free {w : World} {lo b : Nat} {q : Qu} (h : IsQ w lo b q) (i : Nat) : w.frozen? ⟨b, i, none⟩ = false := by obtain ⟨cs, h1, _⟩ := h.blk; exact free_at h1 i
theorem IsQ.freen {w : World} {lo b : Nat} {q : Qu} (h : IsQ w lo b q) {x : Nat} (hx : x ∈ q.ids) (i : Nat) : w.frozen? ⟨x, i, none⟩ = false := free_at (h.nd x hx).2 i
theorem IsQ.c0 {w : World} {lo b : Nat} {q : Qu} (h : IsQ w lo b q) : w.cell? ⟨b, 0, none⟩ = some (.pointer (some ⟨q.head, 0, none⟩)) := by obtain ⟨cs, h1, h2⟩ := h.blk; rw [cell_at h1]; exact h2.2.1
theorem IsQ.c1 {w : World} {lo b : Nat} {q : Qu} (h : IsQ w lo b q) : w.cell? ⟨b, 1, none⟩ = some (.pointer (some ⟨q.tail, 0, none⟩)) := by obtain ⟨cs, h1, h2⟩ := h.blk; rw [cell_at h1]; exact h2.2.2.1
theorem IsQ.c2 {w : World} {lo b : Nat} {q : Qu} (h : IsQ w lo b q) : w.cell? ⟨b, 2, none⟩ = some (.int .i64 ((q.ids.length : Int) - 1)) := by obtain ⟨cs, h1, h2⟩ := h.blk; rw [cell_at h1]; exact h2.2.2.2.1
theorem IsQ.cv {w : World} {lo b : Nat} {q : Qu} (h : IsQ w lo b q) {x : Nat} (hx : x ∈ q.ids) : w.cell? ⟨x, 0, none⟩ = some (.int .i64 (q.v x)) := (cell_at (h.nd x hx).2 0).trans rfl
theorem IsQ.cn {w : World} {lo b : Nat} {q : Qu} (h : IsQ w lo b q) {x : Nat} (hx : x ∈ q.ids) : w.cell? ⟨x, 1, none⟩ = some (pO (q.nx x)) := (cell_at (h.nd x hx).2 1).trans rfl
theorem IsQ.ct {w : World} {lo b : Nat} {q : Qu} (h : IsQ w lo b q) {k o : Nat} (hk : k < 8) (ho : o = 3 + k * 3) :
    w.cell? ⟨b, o, none⟩ = some (.int .i64 ((q.th k).pc : Int)) ∧ w.cell? ⟨b, o + 1, none⟩ = some (pO (q.th k).node) ∧ w.cell? ⟨b, o + 2, none⟩ = some (pO (q.th k).prev) := by
  obtain ⟨cs, h1, h2⟩ := h.blk
  subst ho
  have := h2.2.2.2.2 k hk
  simp only [cell_at h1]
  exact this

theorem RQ.set {cs : Array Value} {o : Nat} {r : Rq} (h : RQ cs o r) {i : Nat} (hi : i < o ∨ o + 3 ≤ i) (u : Value) : RQ (cs.setIfInBounds i u) o r := by
  obtain ⟨h1, h2, h3⟩ := h
  refine ⟨?_, ?_, ?_⟩ <;> (rw [Array.getElem?_setIfInBounds, if_neg (by omega)]; assumption)

/-- a cell of a thread's is stored to -/
theorem IsQ.sth {w : World} {lo b : Nat} {q : Qu} (h : IsQ w lo b q) {k : Nat} (hk : k < 8) (j : Nat) (hj : j < 3) (u : Value) (r : Rq)
    (hr : ∀ cs : Array Value, cs.size = 27 → RQ cs (3 + k * 3) (q.th k) → RQ (cs.setIfInBounds (3 + k * 3 + j) u) (3 + k * 3) r) : IsQ (w.setCell ⟨b, 3 + k * 3 + j, none⟩ u) lo b (q.set k r) := by
  obtain ⟨cs, h1, h2, h3, h4, h5, h6⟩ := h.blk
  refine ⟨⟨_, blk_setCell h1, by simpa using h2, ?_, ?_, ?_, fun i hi => ?_⟩, fun x hx => ⟨(h.nd x hx).1, (Fr.set1 w b (3 + k * 3 + j) u).blk (h.nd x hx).2 (h.ne hx)⟩, h.lob⟩
  · rw [Array.getElem?_setIfInBounds, if_neg (by omega)]; exact h3
  · rw [Array.getElem?_setIfInBounds, if_neg (by omega)]; exact h4
  · rw [Array.getElem?_setIfInBounds, if_neg (by omega)]; exact h5
  · by_cases e : i = k
    · subst e; rw [qset_th]; exact hr cs h2 (h6 i hi)
    · rw [qset_ne q r e]; exact (h6 i hi).set (by omega) u

theorem IsQ.spc {w : World} {lo b : Nat} {q : Qu} (h : IsQ w lo b q) {k o : Nat} (hk : k < 8) (ho : o = 3 + k * 3) (p : Nat) : IsQ (w.setCell ⟨b, o, none⟩ (.int .i64 (p : Int))) lo b (q.set k { q.th k with pc := p }) := by
  subst ho
  refine h.sth hk 0 (by omega) _ _ (fun cs hs ⟨h1, h2, h3⟩ => ?_)
  refine ⟨?_, ?_, ?_⟩ <;> rw [Array.getElem?_setIfInBounds] <;> first | (rw [if_pos (by omega), if_pos (by omega)]) | (rw [if_neg (by omega)]; assumption)
theorem IsQ.snode {w : World} {lo b : Nat} {q : Qu} (h : IsQ w lo b q) {k o : Nat} (hk : k < 8) (ho : o = 3 + k * 3) (x : Option Nat) : IsQ (w.setCell ⟨b, o + 1, none⟩ (pO x)) lo b (q.set k { q.th k with node := x }) := by
  subst ho
  refine h.sth hk 1 (by omega) _ _ (fun cs hs ⟨h1, h2, h3⟩ => ?_)
  refine ⟨?_, ?_, ?_⟩ <;> rw [Array.getElem?_setIfInBounds] <;> first | (rw [if_pos (by omega), if_pos (by omega)]) | (rw [if_neg (by omega)]; assumption)
theorem IsQ.sprev {w : World} {lo b : Nat} {q : Qu} (h : IsQ w lo b q) {k o : Nat} (hk : k < 8) (ho : o = 3 + k * 3) (x : Option Nat) : IsQ (w.setCell ⟨b, o + 2, none⟩ (pO x)) lo b (q.set k { q.th k with prev := x }) := by
  subst ho
  refine h.sth hk 2 (by omega) _ _ (fun cs hs ⟨h1, h2, h3⟩ => ?_)
  refine ⟨?_, ?_, ?_⟩ <;> rw [Array.getElem?_setIfInBounds] <;> first | (rw [if_pos (by omega), if_pos (by omega)]) | (rw [if_neg (by omega)]; assumption)

theorem qset_set (q : Qu) (k : Nat) (r s : Rq) : (q.set k r).set k s = q.set k s := by
  unfold Qu.set; congr 1; funext i; by_cases e : i = k <;> simp [e]

/-- a thread's cells, all three -/
theorem IsQ.srun {w : World} {lo b : Nat} {q : Qu} (h : IsQ w lo b q) {k o : Nat} (hk : k < 8) (ho : o = 3 + k * 3) (r : Rq) :
    IsQ (((w.setCell ⟨b, o, none⟩ (.int .i64 (r.pc : Int))).setCell ⟨b, o + 1, none⟩ (pO r.node)).setCell ⟨b, o + 2, none⟩ (pO r.prev)) lo b (q.set k r) := by
  have h5 := ((h.spc hk ho r.pc).snode hk ho r.node).sprev hk ho r.prev
  simp only [qset_set, qset_th] at h5
  exact h5

theorem IsQ.shead {w : World} {lo b : Nat} {q : Qu} (h : IsQ w lo b q) (x : Nat) : IsQ (w.setCell ⟨b, 0, none⟩ (.pointer (some ⟨x, 0, none⟩))) lo b (q.whead x) := by
  obtain ⟨cs, h1, h2, h3, h4, h5, h6⟩ := h.blk
  refine ⟨⟨_, blk_setCell h1, by simpa using h2, ?_, ?_, ?_, fun i hi => (h6 i hi).set (by omega) _⟩, fun y hy => ⟨(h.nd y hy).1, (Fr.set1 w b 0 _).blk (h.nd y hy).2 (h.ne hy)⟩, h.lob⟩
  · rw [Array.getElem?_setIfInBounds, if_pos (by omega), if_pos (by omega)]; rfl
  · rw [Array.getElem?_setIfInBounds, if_neg (by omega)]; exact h4
  · rw [Array.getElem?_setIfInBounds, if_neg (by omega)]; exact h5
theorem IsQ.stail {w : World} {lo b : Nat} {q : Qu} (h : IsQ w lo b q) (x : Nat) : IsQ (w.setCell ⟨b, 1, none⟩ (.pointer (some ⟨x, 0, none⟩))) lo b (q.wtail x) := by
  obtain ⟨cs, h1, h2, h3, h4, h5, h6⟩ := h.blk
  refine ⟨⟨_, blk_setCell h1, by simpa using h2, ?_, ?_, ?_, fun i hi => (h6 i hi).set (by omega) _⟩, fun y hy => ⟨(h.nd y hy).1, (Fr.set1 w b 1 _).blk (h.nd y hy).2 (h.ne hy)⟩, h.lob⟩
  · rw [Array.getElem?_setIfInBounds, if_neg (by omega)]; exact h3
  · rw [Array.getElem?_setIfInBounds, if_pos (by omega), if_pos (by omega)]; rfl
  · rw [Array.getElem?_setIfInBounds, if_neg (by omega)]; exact h5
/-- a node more, in a block that is new -/
theorem IsQ.sborn2 {w : World} {lo b : Nat} {q : Qu} (h : IsQ w lo b q) {x : Nat} (u : Int) (hx : w.heap.size = x) (hlo : lo ≤ x) :
    IsQ ((w.setCell ⟨b, 2, none⟩ (.int .i64 (q.ids.length : Int))).alloc (.cells #[.int .i64 u, .pointer none] 61)) lo b (q.born x u) := by
  obtain ⟨cs, h1, h2, h3, h4, h5, h6⟩ := h.blk
  have hs : (w.setCell ⟨b, 2, none⟩ (.int .i64 (q.ids.length : Int))).heap.size = x := by simpa using hx
  refine ⟨⟨_, blk_alloc (blk_setCell h1), by simpa using h2, ?_, ?_, ?_, fun i hi => (h6 i hi).set (by omega) _⟩, fun y hy => ?_, h.lob⟩
  · rw [Array.getElem?_setIfInBounds, if_neg (by omega)]; exact h3
  · rw [Array.getElem?_setIfInBounds, if_neg (by omega)]; exact h4
  · rw [Array.getElem?_setIfInBounds, if_pos (by omega), if_pos (by omega)]; simp [Qu.born]
  · have hy' : y ∈ q.ids ++ [x] := hy
    by_cases e : y = x
    · subst e
      have := blk_new (w.setCell ⟨b, 2, none⟩ (.int .i64 (q.ids.length : Int))) (.cells #[.int .i64 u, .pointer none] 61)
      rw [hs] at this
      refine ⟨hlo, ?_⟩
      simp only [Qu.born, if_pos]
      exact this
    · have hy2 : y ∈ q.ids := by simpa [e] using hy'
      refine ⟨(h.nd y hy2).1, blk_alloc ((Fr.set1 w b 2 _).blk ?_ (h.ne hy2))⟩
      simp only [Qu.born, if_neg e]
      exact (h.nd y hy2).2

theorem IsQ.lo {w : World} {lo b : Nat} {q : Qu} (h : IsQ w lo b q) : lo ≤ w.heap.size := by have := h.lt; have := h.lob; omega

/-- a node's next is stored to -/
theorem IsQ.snx {w : World} {lo b : Nat} {q : Qu} (h : IsQ w lo b q) {x : Nat} (hx : x ∈ q.ids) (y : Option Nat) : IsQ (w.setCell ⟨x, 1, none⟩ (pO y)) lo b (q.nxt x y) := by
  obtain ⟨cs, h1, h2⟩ := h.blk
  refine ⟨⟨cs, (Fr.set1 w x 1 _).blk h1 (fun e => h.ne hx e.symm), h2⟩, fun z hz => ⟨(h.nd z hz).1, ?_⟩, h.lob⟩
  by_cases e : z = x
  · subst e
    rw [blk_setCell (h.nd z hz).2]
    simp [Qu.nxt]
  · rw [(Fr.set1 w x 1 (pO y)).blk (h.nd z hz).2 e]
    simp [Qu.nxt, e]

/-- what a step came to, as a value -/
def qnV (x : Qn) : Value := .agg #[.bool x.over, .bool x.take, .int .i64 x.v, .int .i64 x.err]
/-- in a block of its own -/
def QnAt (w : World) (b : Nat) (x : Qn) : Prop := w.heap[b]? = some (.cells #[.bool x.over, .bool x.take, .int .i64 x.v, .int .i64 x.err] 33 (0, 0))

theorem load_qn {w : World} {b : Nat} {x : Qn} (h : QnAt w b x) : (loadVar 33 ⟨b, 0, none⟩).run Try.prog w = .ok (qnV x) w := by
  refine run_loadVar_mid w b 0 33 [.bool x.over, .bool x.take, .int .i64 x.v, .int .i64 x.err] _ ?_ Try.underlying33 rfl (by kernel_rfl)
  intro j v hv
  match j, hv with
  | 0, hv => simpa using (cell_at h 0).trans hv
  | 1, hv => simpa using (cell_at h 1).trans hv
  | 2, hv => simpa using (cell_at h 2).trans hv
  | 3, hv => simpa using (cell_at h 3).trans hv

theorem results_qn {fn : Func} {p : Tmp} (h : fn.results = #[.cell p 33]) (tmps : Array Value) (w : World) (b : Nat) (x : Qn) (hp : tmps.getD p undef = .pointer (some ⟨b, 0, none⟩))
    (hb : QnAt w b x) : (results fn tmps).run Try.prog w = .ok (qnV x) w := by
  have e : (results fn tmps).run Try.prog w = ((asAddr (tmps.getD p undef)).run Try.prog w).andThen fun a w₁ => ((loadVar 33 a).run Try.prog w₁).andThen fun x w₂ => .ok x w₂ := by
    simp only [results, h]
    simp [Sem.run_bind, Result.andThen]
    cases (asAddr (tmps[p]?.getD undef)).run Try.prog w with
    | halt h w => rfl
    | ok a w => dsimp only; cases (loadVar 33 a).run Try.prog w <;> rfl
  have := load_qn hb
  rw [e, hp]
  simp only [asAddr, Sem.run_pure, Result.andThen_ok, this]

theorem results_qn2 {fn : Func} {p u : Tmp} (h : fn.results = #[.cell p 33, .tmp u]) (tmps : Array Value) (w : World) (b : Nat) (x : Qn) (hp : tmps.getD p undef = .pointer (some ⟨b, 0, none⟩))
    (hb : QnAt w b x) : (results fn tmps).run Try.prog w = .ok (.tuple #[qnV x, tmps.getD u undef]) w := by
  rw [results_cell_tmp h, hp]
  have := load_qn hb
  simp only [asAddr, Sem.run_pure, Result.andThen_ok, this]

theorem QnAt.new (w : World) : QnAt (w.alloc (.cells #[.bool false, .bool false, .int .i64 0, .int .i64 0] 33)) w.heap.size Qn.none := blk_new w _
theorem QnAt.new2 {W : World} {n : Nat} (hs : W.heap.size = n) : QnAt (W.alloc (.cells #[.bool false, .bool false, .int .i64 0, .int .i64 0] 33)) n Qn.none := by subst hs; exact blk_new W _

theorem QnAt.drew {w : World} {b : Nat} {x : Qn} (h : QnAt w b x) : QnAt w.drew b x := h
theorem QnAt.drewN {w : World} {b : Nat} {x : Qn} (h : QnAt w b x) (n : Nat) : QnAt (w.drewN n) b x := h

theorem QnAt.set {w : World} {b : Nat} {x : Qn} (h : QnAt w b x) (y : Qn) :
    QnAt ((((w.setCell ⟨b, 0, none⟩ (.bool y.over)).setCell ⟨b, 1, none⟩ (.bool y.take)).setCell ⟨b, 2, none⟩ (.int .i64 y.v)).setCell ⟨b, 3, none⟩ (.int .i64 y.err)) b y := by
  have h1 := blk_setCell (i := 0) (u := .bool y.over) h
  have h2 := blk_setCell (i := 1) (u := .bool y.take) h1
  have h3 := blk_setCell (i := 2) (u := .int .i64 y.v) h2
  have h4 := blk_setCell (i := 3) (u := .int .i64 y.err) h3
  exact h4
theorem QnAt.fr {P : Nat → Prop} {w w' : World} {b : Nat} {x : Qn} (h : QnAt w b x) (hf : Fr P w w') (hb : ¬ P b) : QnAt w' b x := hf.blk h hb

theorem qn_fr (w : World) (b : Nat) (y : Qn) : Fr (fun k => k = b) w ((((w.setCell ⟨b, 0, none⟩ (.bool y.over)).setCell ⟨b, 1, none⟩ (.bool y.take)).setCell ⟨b, 2, none⟩ (.int .i64 y.v)).setCell ⟨b, 3, none⟩ (.int .i64 y.err)) :=
  ((((Fr.refl (fun k => k = b) w).setAt _ _ _ (.inr rfl)).setAt _ _ _ (.inr rfl)).setAt _ _ _ (.inr rfl)).setAt _ _ _ (.inr rfl)

theorem QnAt.cs {w : World} {b : Nat} {x : Qn} (h : QnAt w b x) : (w.cell? ⟨b, 0, none⟩ = some (.bool x.over) ∧ w.cell? ⟨b, 1, none⟩ = some (.bool x.take) ∧ w.cell? ⟨b, 2, none⟩ = some (.int .i64 x.v) ∧ w.cell? ⟨b, 3, none⟩ = some (.int .i64 x.err)) ∧
    (w.frozen? ⟨b, 0, none⟩ = false ∧ w.frozen? ⟨b, 1, none⟩ = false ∧ w.frozen? ⟨b, 2, none⟩ = false ∧ w.frozen? ⟨b, 3, none⟩ = false) :=
  ⟨⟨(cell_at h 0).trans rfl, (cell_at h 1).trans rfl, (cell_at h 2).trans rfl, (cell_at h 3).trans rfl⟩, free_at h 0, free_at h 1, free_at h 2, free_at h 3⟩

/-- the new nodes of a Begin are no node's -/
theorem IsQ.fresh {w : World} {lo b : Nat} {q : Qu} (h : IsQ w lo b q) {x : Nat} (hx : w.heap.size ≤ x) : x ∉ q.ids := fun hm => by have := h.ltn hm; omega

set_option maxHeartbeats 1000000 in
theorem over_calls {w : World} {lo b : Nat} {q : Qu} (h : IsQ w lo b q) {k o : Nat} (hk : k < 8) (ho : Hid (o = 3 + k * 3)) (ov tk : Bool) (v err : Int) :
    Calls Try.prog 28 #[.pointer (some ⟨b, o, none⟩), .agg #[.bool ov, .bool tk, .int .i64 v, .int .i64 err]] w fun e w' => e = .returned (.agg #[.bool true, .bool tk, .int .i64 v, .int .i64 err]) ∧ IsQ w' lo b (q.set k Rq.zero) ∧ Fr (fun k => k = b) w w' := by
  have f0 := h.free o
  have f1 := h.free (o + 1)
  have f2 := h.free (o + 2)
  obtain ⟨c0, c1, c2⟩ := h.ct hk (unhide ho)
  have hlt := h.lt
  go_enter Try.func28, Try.ntmps28
  go_wp2
  have hD := ((h.srun hk (unhide ho) Rq.zero).al (.cells #[.bool true, .bool tk, .int .i64 v, .int .i64 err] 33)).al (.cells #[.bool true, .bool tk, .int .i64 v, .int .i64 err] 33)
  have hN := blk_new ((((w.setCell ⟨b, o, none⟩ (.int .i64 0)).setCell ⟨b, o + 1, none⟩ (.pointer none)).setCell ⟨b, o + 2, none⟩ (.pointer none)).alloc (.cells #[.bool true, .bool tk, .int .i64 v, .int .i64 err] 33)) (.cells #[.bool true, .bool tk, .int .i64 v, .int .i64 err] 33)
  have hs : ((((w.setCell ⟨b, o, none⟩ (.int .i64 0)).setCell ⟨b, o + 1, none⟩ (.pointer none)).setCell ⟨b, o + 2, none⟩ (.pointer none)).alloc (.cells #[.bool true, .bool tk, .int .i64 v, .int .i64 err] 33)).heap.size = w.heap.size + 1 := by simp
  rw [hs] at hN
  exact bodyPost_ret (results_qn rfl _ _ (w.heap.size + 1) ⟨true, tk, v, err⟩ rfl hN) rfl ⟨rfl, hD, ((((((Fr.refl (fun k => k = b) w).setAt b o _ (.inr rfl)).setAt b (o + 1) _ (.inr rfl)).setAt b (o + 2) _ (.inr rfl)).alloc _).alloc _)⟩

end Go.Proofs.Ytingpopcdihclab
