/-
  A range over a function whose iterator may itself hold such a range: the iterator's contract (SeqOwn: what is asked to abide abides every turn of what is no cells and was laid since the call), and the law of the caller's loop. Of no program.
-/
import Derived.RangeFuncNested
import Derived.RangeFuncBound
import Derived.RangeFuncCalls
import Derived.RangeFuncLeaves
namespace Go.Proofs.Ytanmhjnelhjejaa
open Go Go.RowKit
set_option linter.unusedVariables false

def SeqOwn {α : Type} (F : Fence) (n : Nat) (P : Program) (g : Nat) (lb : Array Value) (encs : α → Array Value) (Kp : World → World → Prop) (S Sp : List α → Prop) (N : Nat) (w : World) : Prop :=
  ∀ (l : Nat) (J Jx : List α → World → Prop) (W : World), Below w.heap.size w W → w.heap.size + 2 ≤ W.heap.size → OwnFrom W.heap.size J → OwnFrom W.heap.size Jx →
    (∀ pre x V, J pre V → pre.length < N → YieldAt F (n - 1) P l (encs x) V fun e V' => (e = .returned (.bool true) ∧ J (pre ++ [x]) V' ∧ Kp V V') ∨ (e = .returned (.bool false) ∧ Jx (pre ++ [x]) V' ∧ Kp V V')) →
    J [] W → CallsIn F n P g (#[.func (.yield l) #[] #[]] ++ lb) W fun e W' => (∃ v, e = .returned v) ∧ ((∃ xs, S xs ∧ J xs W') ∨ ∃ pre, Sp pre ∧ Jx pre W')

/-- a loop's record and its block for deferred calls -/
structure Lp (D : Nat) (r : Loop) (W : World) : Prop where
  loop : W.heap[D + 1]? = some (.loop r)
  dfr : W.heap[D]? = some (.deferred (some []))

theorem Lp.turn {D : Nat} {r : Loop} {W : World} (h : Lp D r W) (r' : Loop) : Lp D r' (W.putObj (D + 1) (.loop r')) :=
  ⟨World.putObj_heap_same (Array.getElem?_eq_some_iff.1 h.loop).1, (World.putObj_heap_other (by omega)).trans h.dfr⟩

theorem Lp.own (D : Nat) (r : Loop) {B : Nat} (hB : D + 2 ≤ B) : OwnFrom B (fun (_ : Unit) W => Lp D r W) := fun _ W W' row h hg hr =>
  ⟨(hg.block _ (Array.getElem?_eq_some_iff.1 h.loop).1 (fun e => by have := (hr _ e.symm).1; omega)).trans h.loop, (hg.block _ (Array.getElem?_eq_some_iff.1 h.dfr).1 (fun e => by have := (hr _ e.symm).1; omega)).trans h.dfr⟩

theorem ownWider {β : Type} {B B' : Nat} {I : β → World → Prop} (h : OwnFrom B I) (hB : B ≤ B') : OwnFrom B' I := fun s W W' row hs hg hr => h s W W' row hs hg (fun r e => ⟨Nat.le_trans hB (hr r e).1, (hr r e).2⟩)

/-- how a round's body may be left: the loop's own two blocks stand -/
def leftBy {α : Type} (D : Nat) (Kp : World → World → Prop) (I : List α → World → Prop) (Ix : Code → List α → World → Prop) (r : Loop) (xs : List α) (W : World) : Exit → Act → World → Prop
  | .normal, _, V => Lp D r V ∧ Kp W V ∧ I xs V
  | .ret, _, V => Lp D r V ∧ Kp W V ∧ Ix .ret xs V
  | .exit id, _, V => Lp D r V ∧ Kp W V ∧ Ix (.exit id) xs V
  | .goto t, _, V => Lp D r V ∧ Kp W V ∧ Ix (.goto t) xs V
  | .panic _, _, _ => False
  | .outgrown, _, _ => False

/-- a round at the wide fence asks for no depth, and may stand in another loop's round -/
theorem round_wide {m m' : Nat} {P : Program} {l lp : Nat} {f : FuncId} {tmps : Array Value} {assign body : Code} {w : World} {R : Ending → World → Prop} (h : RoundIn Fence.wide m P l f tmps assign body w R) : RoundIn (Fence.wide.inRound lp) m' P l f tmps assign body w R :=
  ⟨h.1, fun c cs _ => h.2 c cs (by simp [Fence.room, Fence.wide])⟩

section
variable {F : Fence} {n : Nat} {P : Program}

theorem wpIn_range_seqOwn {α : Type} {g : Operand} {ps : Array Tmp} {assign body : Code} {Q : Exit → Act → World → Prop} {a : Act} {w : World} (hro : F.round = none) (h1 : 1 ≤ n)
    {gf : Nat} {lb : Array Value} (hg : a.eval g = .func (.func gf) #[] lb) (hFg : F.fn gf) (eg : ∀ args w, (callFunc gf args).run P w = .ok (.enter gf args) w)
    {encs : α → Array Value} {Kp : World → World → Prop} {S Sp : List α → Prop} {N : Nat} {w0 : World} (hseq : SeqOwn F (n - 1) P gf lb encs Kp S Sp N w0) (hb0 : Below w0.heap.size w0 w) (hps : ∀ x, (encs x).size = ps.size)
    (hKt : ∀ {A B C : World}, Kp A B → Kp B C → Kp A C) (hKb : ∀ (W : World) (r r' : Loop), W.heap[w.heap.size + 1]? = some (.loop r) → Kp W (W.putObj (w.heap.size + 1) (.loop r')))
    (I : List α → World → Prop) (Ix : Code → List α → World → Prop) (hI : OwnFrom w.heap.size I) (hIx : ∀ c, OwnFrom w.heap.size (Ix c)) (h0 : I [] w) (a₁ : α → Act)
    (hassign : ∀ (x : α) (W : World) (K : Act → World → Prop), K (a₁ x) W → assign.wpIn (F.inRound (w.heap.size + 1)) (n - 1 - 1) P (Exit.then K (fun _ _ _ => False)) { tmps := (ps.zip (encs x)).foldl (fun t (p, v) => t.setIfInBounds p v) a.tmps, defers := [] } W)
    (hbody : ∀ (r : Loop) (pre : List α) (x : α) (W : World), Lp w.heap.size r W → I pre W → pre.length < N → body.wpIn (F.inRound (w.heap.size + 1)) (n - 1 - 1) P (leftBy w.heap.size Kp I Ix r (pre ++ [x]) W) (a₁ x) W)
    (hdone : ∀ (xs : List α) (W : World), S xs → I xs W → W.heap[w.heap.size]? = some (.deferred (some [])) → Q .normal { a with defers := { target := .collected w.heap.size, args := #[] } :: a.defers } W)
    (hstop : ∀ (c : Code) (pre : List α) (W : World), Sp pre → Ix c pre W → W.heap[w.heap.size]? = some (.deferred (some [])) → c.wpIn F n P Q { a with defers := { target := .collected w.heap.size, args := #[] } :: a.defers } W) :
    (Code.rangeFunc g ps assign body).wpIn F n P Q a w := by
  refine wpIn_rangeFunc fun fn hfn => ?_
  rw [hro]
  let R : LoopState → Option Code → Loop := fun st pe => { state := st, pending := pe, fn, tmps := a.tmps, params := ps, assign, body, defers := w.heap.size }
  let V : World := (w.alloc (.deferred (some []))).alloc (.loop (R .ready none))
  have hV : Lp w.heap.size (R .ready none) V := ⟨by have := World.alloc_heap_new (w.alloc (.deferred (some []))) (.loop (R .ready none)); rwa [World.size_alloc] at this, (Below.heap_alloc _ _ _ (by simp)).trans (World.alloc_heap_new w _)⟩
  have zV : V.heap.size = w.heap.size + 2 := by simp [V]
  have iV : I [] V := hI.alloc _ (hI.alloc _ h0)
  have bV : Below w0.heap.size w0 V := hb0.trans ((((Below.refl _ w).alloc (Nat.le_refl _) _).alloc (by simp) _).mono hb0.size)
  have put : ∀ {xs : List α} {W : World} {r : Loop} (r' : Loop), Lp w.heap.size r W → I xs W → I xs (W.putObj (w.heap.size + 1) (.loop r')) := fun r' hl hi => hI.putObj _ hi (by omega) hl.loop rfl
  have putx : ∀ {c : Code} {xs : List α} {W : World} {r : Loop} (r' : Loop), Lp w.heap.size r W → Ix c xs W → Ix c xs (W.putObj (w.heap.size + 1) (.loop r')) := fun r' hl hi => (hIx _).putObj _ hi (by omega) hl.loop rfl
  have call := hseq (w.heap.size + 1) (fun pre W => I pre W ∧ Lp w.heap.size (R .ready none) W) (fun pre W => ∃ c, Ix c pre W ∧ Lp w.heap.size (R .done (some c)) W) V bV (by have := hb0.size; omega)
    (OwnFrom.and (ownWider hI (by omega)) (fun s W W' row h hg hr => Lp.own _ _ (by omega) () W W' row h hg hr))
    (fun s W W' row ⟨c, hc, hl⟩ hg hr => ⟨c, ownWider (hIx c) (by omega) s W W' row hc hg hr, Lp.own _ _ (by omega) () W W' row hl hg hr⟩) ?round ⟨iV, hV⟩
  · refine ⟨w.heap.size + 1, [{ target := .collected w.heap.size, args := #[] }], V, { target := .fn (.func gf) lb, args := #[.func (.yield (w.heap.size + 1)) #[] #[]] }, V, gf, #[.func (.yield (w.heap.size + 1)) #[] #[]] ++ lb, V, run_enterLoop_outer _ _ _ _ _, ?_, ?_, ?_, fun _ => h1, ?_⟩
    · simp only [resolve, hg]; simp [go_sem]
    · intro f' hf'; simp [Target.leads] at hf'; subst hf'; exact hFg
    · simp [invoke, go_sem, eg]
    · refine call.mono ?_
      rintro e W2 ⟨⟨v, rfl⟩, (⟨xs, hS, hi, hl⟩ | ⟨pre, hSp, c, hi, hl⟩)⟩
      · exact ⟨none, _, run_endLoop (P := P) hl.loop (by simp [R]), hdone xs _ hS (put _ hl hi) (hl.turn _).dfr⟩
      · exact ⟨some c, _, run_endLoop (P := P) hl.loop (by simp [R]), hstop c pre _ hSp (putx _ hl hi) (hl.turn _).dfr⟩
  case round =>
    rintro pre x W ⟨hi, hl⟩ hlen
    refine ⟨fn, _, assign, body, run_yield (P := P) hl.loop (hps x), roundIn_of_wpIn hfn (hassign x W _ ⟨_, run_beginRound hl.loop rfl, ?_⟩)⟩
    have hb := hbody _ pre x _ (hl.turn (R .busy none)) (put _ hl hi) hlen
    refine wpIn_mono hb ?_
    intro e a3 W3 hp
    cases e with
    | normal => exact ⟨_, _, run_endRound (P := P) none hp.1.loop, .inl ⟨rfl, ⟨put _ hp.1 hp.2.2, hp.1.turn _⟩, hKt (hKt (hKb _ _ _ hl.loop) hp.2.1) (hKb _ _ _ hp.1.loop)⟩⟩
    | ret => exact ⟨_, _, run_endRound (P := P) (some .ret) hp.1.loop, .inr ⟨rfl, ⟨.ret, putx _ hp.1 hp.2.2, hp.1.turn _⟩, hKt (hKt (hKb _ _ _ hl.loop) hp.2.1) (hKb _ _ _ hp.1.loop)⟩⟩
    | exit id => exact ⟨_, _, run_endRound (P := P) (some (.exit id)) hp.1.loop, .inr ⟨rfl, ⟨.exit id, putx _ hp.1 hp.2.2, hp.1.turn _⟩, hKt (hKt (hKb _ _ _ hl.loop) hp.2.1) (hKb _ _ _ hp.1.loop)⟩⟩
    | goto t => exact ⟨_, _, run_endRound (P := P) (some (.goto t)) hp.1.loop, .inr ⟨rfl, ⟨.goto t, putx _ hp.1 hp.2.2, hp.1.turn _⟩, hKt (hKt (hKb _ _ _ hl.loop) hp.2.1) (hKb _ _ _ hp.1.loop)⟩⟩
    | panic ch => exact hp.elim
    | outgrown => exact hp.elim
end

end Go.Proofs.Ytanmhjnelhjejaa
