/-
  A region that only reads, in the round of a range over a function: one walk, in the order of the text. Of no program.
-/
import Derived.RangeFuncNested
import Derived.RangeFuncCalls
import Derived.Sort.QuietIn
namespace Go.Proofs.Ytanmhjnelhjejaa
open Go Go.RowKit
set_option linter.unusedVariables false

theorem uponIn_round (F : Fence) (lp n : Nat) (P : Program) (o : Oper) (a : Act) (K : Act → World → Prop) (Q : Exit → Act → World → Prop) (r : Result Next) : o.uponIn (F.inRound lp) n P a K Q r = o.uponIn F n P a K Q r := by
  cases r with
  | ok x w => cases x <;> rfl
  | halt h w => cases h <;> rfl

theorem wpOpIn_round {F : Fence} (hro : F.round = none) (lp n : Nat) (P : Program) {ops : Array Oper} (hnd : ∀ o ∈ ops, ∀ c, o.op ≠ .defer c) (Q : Exit → Act → World → Prop) (i : Nat) (K : Act → World → Prop) (a : Act) (w : World) :
    wpOpIn (F.inRound lp) n P ops Q i K a w = wpOpIn F n P ops Q i K a w := by
  unfold wpOpIn
  cases h : ops[i]? with
  | none => rfl
  | some o =>
    have hm : o ∈ ops := by
      obtain ⟨hi, e⟩ := Array.getElem?_eq_some_iff.1 h
      rw [← e]; exact Array.getElem_mem hi
    dsimp only
    congr 1
    unfold Oper.wpIn
    rw [uponIn_round, Fence.inRound_round, Fence.inRound_fn, Oper.semAt_some _ _ _ (hnd o hm), hro, Oper.semAt_none]

theorem wpAnyIn_round {F : Fence} (hro : F.round = none) (lp n : Nat) (P : Program) {ops : Array Oper} (hnd : ∀ o ∈ ops, ∀ c, o.op ≠ .defer c) (md : Region.Mode) (Q : Exit → Act → World → Prop) : ∀ (fuel : Nat) (listed : Array Bool), wpAnyIn (F.inRound lp) n P md ops Q fuel listed = wpAnyIn F n P md ops Q fuel listed
  | 0, _ => rfl
  | fuel + 1, listed => by
    funext a w
    unfold wpAnyIn
    congr 1
    refine propext ⟨fun h i hi => ?_, fun h i hi => ?_⟩
    · have := h i hi
      rwa [wpOpIn_round hro lp n P hnd, wpAnyIn_round hro lp n P hnd md Q fuel] at this
    · rw [wpOpIn_round hro lp n P hnd, wpAnyIn_round hro lp n P hnd md Q fuel]
      exact h i hi

theorem wpIn_round_quiet_lit {F : Fence} {n : Nat} {P : Program} {id : Nat} {Q : Exit → Act → World → Prop} {a : Act} {w : World} {l : List Oper} (lp : Nat) (hro : F.round = none) (hm : P.follows .mixedOrders = true) (hB : Region.lexB .any l.toArray = true)
    (hnd : ∀ o ∈ l, ∀ c, o.op ≠ .defer c) (h : wpQuietIn F n P l.toArray (fun w' => ∃ n, w' = w.drewN n) (fun a' => ∀ w', (∃ n, w' = w.drewN n) → Q .normal a' w') l a) : (Code.region id l.toArray true).wpIn (F.inRound lp) n P Q a w := by
  simp only [Region.lexB, Bool.and_eq_true] at hB
  refine wpIn_region_any hm ?_
  rw [wpAnyIn_round hro lp n P (by simpa using hnd)]
  refine wpAnyIn_of_quiet (C := fun w' => ∃ n, w' = w.drewN n) (Q := fun a' => ∀ w', (∃ n, w' = w.drewN n) → Q .normal a' w') hro (fun _ w' hw' h => h w' hw') _ _ _ _ ⟨1, rfl⟩ ?_
  have := wpAnyQIn_lex (F := F) (n := n) (C := fun w' => ∃ n, w' = w.drewN n) (md := .any) hB.1 l 0 (Array.replicate l.toArray.size false) a (by simp) (by simpa using hB.2) h
  simpa using this

end Go.Proofs.Ytanmhjnelhjejaa
