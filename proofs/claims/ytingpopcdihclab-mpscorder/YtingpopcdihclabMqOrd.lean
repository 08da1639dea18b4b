/-
  Each putter's values in its order; who has what under way; how soon all is over. Of no program.
-/
import Derived.Test.YtingpopcdihclabMqEv
namespace Go.Proofs.Ytingpopcdihclab
set_option linter.unusedVariables false

/-- what waits is, putter by putter, what stands between g (got) and h (put) -/
def Ord : List Int → (Nat → Int) → (Nat → Int) → Prop
  | [], g, h => ∀ p, 1 ≤ p → p ≤ 7 → g p = h p
  | v :: V, g, h => ∃ p : Nat, 1 ≤ p ∧ p ≤ 7 ∧ v = 1000 * (p : Int) + (g p + 1) ∧ 0 ≤ g p ∧ g p ≤ 900 ∧ Ord V (upd g p (g p + 1)) h

theorem Ord.snoc {p : Nat} (hp1 : 1 ≤ p) (hp7 : p ≤ 7) : ∀ {V : List Int} {g h : Nat → Int}, Ord V g h → 0 ≤ h p → h p ≤ 900 → Ord (V ++ [1000 * (p : Int) + (h p + 1)]) g (upd h p (h p + 1))
  | [], g, h, o, h0, h9 => by
    have e := o p hp1 hp7
    refine ⟨p, hp1, hp7, by rw [e], by omega, by omega, fun r h1 h7 => ?_⟩
    by_cases er : r = p
    · subst er; rw [upd_at, upd_at, e]
    · rw [upd_ne _ _ er, upd_ne _ _ er]; exact o r h1 h7
  | v :: V, g, h, ⟨r, h1, h2, h3, h4, h5, o⟩, h0, h9 => ⟨r, h1, h2, h3, h4, h5, Ord.snoc hp1 hp7 o h0 h9⟩

/-- how many accesses a thread has left -/
def rem' (q : Qu) (k : Nat) : Nat := if (q.th k).pc = 0 then 0 else if k = 0 then 1 else 4 - (q.th k).pc

/-- who has what under way: f, how many Puts have begun, h, how many have changed head -/
def PO (q : Qu) (f h : Nat → Int) : Prop :=
  ∀ k, k < 8 → (q.th k).pc ≠ 1 ∧ (k ≠ 0 → (∀ x, q.th k = ⟨2, some x, none⟩ → f k = h k + 1 ∧ q.v x = 1000 * (k : Int) + (h k + 1)) ∧ ((q.th k).pc ≠ 2 → f k = h k))

/-- from m on all that is under way comes to its end -/
def RM (q : Qu) (m j : Nat) : Prop := (∀ k, k < 8 → rem' q k ≤ 2) ∧ (∀ t, m ≤ t → t < j → rem' q (t % 8) ≤ 1) ∧ ∀ t, m ≤ t → t + 8 < j → rem' q (t % 8) = 0

theorem RM.step {q q' : Qu} {m j k : Nat} (h : RM q m j) (hj : m ≤ j → j % 8 = k) (hk : rem' q' k ≤ rem' q k - 1 ∨ j < m ∧ rem' q' k ≤ 2) (ho : ∀ i, i ≠ k → rem' q' i = rem' q i) : RM q' m (j + 1) := by
  obtain ⟨h1, h2, h3⟩ := h
  have hle : m ≤ j → ∀ i, rem' q' i ≤ rem' q i := fun hm i => by
    by_cases e : i = k
    · subst e; rcases hk with hk | hk <;> omega
    · rw [ho i e]; exact Nat.le_refl _
  refine ⟨fun i hi => ?_, fun t ht hlt => ?_, fun t ht hlt => ?_⟩
  · by_cases e : i = k
    · subst e; have := h1 i hi; rcases hk with hk | hk <;> omega
    · rw [ho i e]; exact h1 i hi
  · have hm : m ≤ j := by omega
    by_cases e : t = j
    · subst e
      rw [hj hm]
      have := h1 k (by rw [← hj hm]; omega)
      rcases hk with hk | hk <;> omega
    · exact Nat.le_trans (hle hm _) (h2 t ht (by omega))
  · have hm : m ≤ j := by omega
    by_cases e : t + 8 = j
    · have ek : t % 8 = k := by rw [← hj hm]; omega
      have := h2 t ht (by omega)
      rw [ek] at this ⊢
      rcases hk with hk | hk <;> omega
    · have := h3 t ht (by omega)
      have := hle hm (t % 8)
      omega

theorem RM.same {q : Qu} {m j k : Nat} (h : RM q m j) (hj : m ≤ j → j % 8 = k) (hk : (q.th k).pc = 0) : RM q m (j + 1) :=
  h.step hj (.inl (by unfold rem'; rw [if_pos hk]; omega)) (fun _ _ => rfl)

theorem RM.end {q : Qu} {m j : Nat} (h : RM q m j) (hj : m + 16 ≤ j) {k : Nat} (hk : k < 8) : (q.th k).pc = 0 ∨ 4 ≤ (q.th k).pc := by
  have ht : ∃ t, m ≤ t ∧ t + 8 < j ∧ t % 8 = k := ⟨m + (k + 8 - m % 8) % 8, by omega, by omega, by omega⟩
  obtain ⟨t, h1, h2, h3⟩ := ht
  have := h.2.2 t h1 h2
  rw [h3] at this
  unfold rem' at this
  split at this
  · exact .inl (by assumption)
  · split at this
    · omega
    · exact .inr (by omega)

/-- the threads but k stand as they stood -/
theorem rem_ne {q q' : Qu} {k i : Nat} (h : ∀ j, j ≠ k → q'.th j = q.th j) (hi : i ≠ k) : rem' q' i = rem' q i := by unfold rem'; rw [h i hi]

end Go.Proofs.Ytingpopcdihclab
