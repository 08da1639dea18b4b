/-
  What the bound on the bulk of the arguments says of a list of items.
-/
import Derived.Test.YtcfadbogcoocoaaFrame
import Derived.Test.YtcfadbogcoocoaaBackPure
namespace Go.Proofs.Ytcfadbogcoocoaa
set_option linter.unusedVariables false

theorem bulk_append {H : Type} (l r : List (DataW H)) : Rows.uptoBulkAll (l ++ r) = Rows.uptoBulkAll l + Rows.uptoBulkAll r := by
  induction l with
  | nil => simp [Rows.uptoBulkAll]
  | cons x l ih => simp only [List.cons_append, Rows.uptoBulkAll, ih]; omega

theorem bulk_item {H : Type} (x : It) : Rows.uptoBulk (itemD (H := H) x) = x.S.size + 5 := by
  have := Lib.size_eq x.S
  simp only [itemD, Rows.uptoBulk, Rows.uptoBulkAll]
  omega

theorem bulk_items {H : Type} (its : Nat → It) : ∀ len, sumB its len ≤ 2 * Rows.uptoBulkAll ((List.range len).map fun i => itemD (H := H) (its i)) := by
  intro len
  induction len with
  | zero => simp [sumB]
  | succ n ih =>
    rw [List.range_succ, List.map_append, bulk_append]
    simp only [List.map_cons, List.map_nil, Rows.uptoBulkAll, bulk_item, sumB]
    omega

theorem bulk_sum {H : Type} {its : Nat → It} {len : Nat} {d : DataW H} {pre : List (DataW H)} (hd : (d = .nil ∧ len = 0) ∨ ∃ r, d = .slice ((List.range len).map fun i => itemD (its i)) r)
    (hk : Rows.uptoSmall H (pre ++ [d]) = true) : sumB its len ≤ 8388608 := by
  have hb : Rows.uptoBulkAll (pre ++ [d]) ≤ 1048576 := of_decide_eq_true hk
  rw [bulk_append] at hb
  rcases hd with ⟨_, rfl⟩ | ⟨r, rfl⟩
  · simp [sumB]
  · have h := bulk_items (H := H) its len
    simp only [Rows.uptoBulkAll, Rows.uptoBulk] at hb
    omega
end Go.Proofs.Ytcfadbogcoocoaa
