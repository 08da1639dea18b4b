/-
  What the bound on the bulk of the arguments says of lists of types and of texts.
-/
import Derived.Test.YtbckmmodobennaaDoorKnFrame
namespace Go.Proofs.YtbckmmodobennaaDoor
open Go.ChangeShapes Go.WideShapes Go.ChangeAt Go.RowKit
set_option linter.unusedVariables false

theorem bulk_pos {H : Type} (d : DataW H) : 1 ≤ Rows.uptoBulk d := by
  cases d with
  | lit l => cases l <;> simp [Rows.uptoBulk]
  | nil => simp [Rows.uptoBulk]
  | ptr d => simp [Rows.uptoBulk]
  | slice e s => simp [Rows.uptoBulk]
  | agg p => simp [Rows.uptoBulk]
  | iface n d => simp [Rows.uptoBulk]
  | map e => simp [Rows.uptoBulk]
  | held h => simp [Rows.uptoBulk]

theorem bulk_length {H : Type} (l : List (DataW H)) : l.length ≤ Rows.uptoBulkAll l := by
  induction l with
  | nil => simp
  | cons d l ih => have := bulk_pos d; simp only [List.length_cons, Rows.uptoBulkAll]; omega

theorem bulk_row {H : Type} {d : DataW H} {len : Nat} (h : (d = .nil ∧ len = 0) ∨ ∃ zs r, d = .slice (lits .i64 zs) r ∧ zs.length = len) : len ≤ Rows.uptoBulk d := by
  rcases h with ⟨_, rfl⟩ | ⟨zs, r, rfl, rfl⟩
  · omega
  · have := bulk_length (lits (H := H) .i64 zs)
    simp only [Rows.uptoBulk]
    have e : (lits (H := H) .i64 zs).length = zs.length := by simp [lits]
    omega
end Go.Proofs.YtbckmmodobennaaDoor
