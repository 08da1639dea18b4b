/-
  What a heap holds, told by its things in the order of their tickets. Plain.
-/
import Derived.Test.YtijiackjlgpgpaaHpArr
namespace Go.Proofs.Ytijiackjlgpgpaa
open Go.RowKit
set_option linter.unusedVariables false

theorem le_ex {X : Type} : ∀ (M : List (En X)), M ≠ [] → ∃ e, Le M e
  | [], h => absurd rfl h
  | [e], _ => ⟨e, by simp, fun d hd => by simp at hd; subst hd; exact lt3_irrefl _⟩
  | a :: b :: r, _ => by
    obtain ⟨e, he, hl⟩ := le_ex (b :: r) (by simp)
    by_cases h : lt3 e a
    · refine ⟨e, List.mem_cons_of_mem _ he, fun d hd => ?_⟩
      rcases List.mem_cons.1 hd with rfl | hd
      · exact lt3_asymm h
      · exact hl d hd
    · refine ⟨a, List.mem_cons_self .., fun d hd => ?_⟩
      rcases List.mem_cons.1 hd with rfl | hd
      · exact lt3_irrefl _
      · exact lt3_trans h (hl d hd)

/-- the tickets rise, from 1 up to m -/
structure Tk {X : Type} (M : List (En X)) (m : Nat) : Prop where
  rise : M.Pairwise (fun a b => a.k < b.k)
  bd : ∀ e ∈ M, 1 ≤ e.k ∧ e.k ≤ (m : Int)

theorem Tk.nil {X : Type} : Tk ([] : List (En X)) 0 := ⟨List.Pairwise.nil, fun e he => by cases he⟩

theorem Tk.put {X : Type} {M : List (En X)} {m : Nat} (h : Tk M m) (t : Int) (x : X) : Tk (M ++ [⟨t, (m : Int) + 1, x⟩]) (m + 1) := by
  refine ⟨List.pairwise_append.2 ⟨h.rise, List.pairwise_singleton _ _, fun a ha b hb => ?_⟩, fun e he => ?_⟩
  · simp at hb; subst hb; have := (h.bd a ha).2; show a.k < (m : Int) + 1; omega
  · rcases List.mem_append.1 he with he | he
    · have := h.bd e he; omega
    · simp at he; subst he; show 1 ≤ (m : Int) + 1 ∧ (m : Int) + 1 ≤ ((m + 1 : Nat) : Int); omega

theorem Tk.del {X : Type} {M : List (En X)} {m : Nat} (h : Tk M m) (k : Int) : Tk (del M k) m :=
  ⟨h.rise.filter _, fun e he => h.bd e (List.mem_filter.1 he).1⟩

theorem Tk.gone {X : Type} {M : List (En X)} (k : Int) : hasK (Go.Proofs.Ytijiackjlgpgpaa.del M k) k = false := by
  cases hq : hasK (Go.Proofs.Ytijiackjlgpgpaa.del M k) k
  · rfl
  · obtain ⟨e, he, hk⟩ := (hasK_iff _ _).1 hq
    unfold Go.Proofs.Ytijiackjlgpgpaa.del at he
    rw [List.mem_filter] at he
    simp at he
    exact absurd hk he.2

theorem Tk.delLen {X : Type} {M : List (En X)} (h : M.Pairwise (fun a b => a.k < b.k)) (k : Int) (hk : hasK M k = true) : (Go.Proofs.Ytijiackjlgpgpaa.del M k).length + 1 = M.length := by
  induction M with
  | nil => cases hk
  | cons a r ih =>
    rw [List.pairwise_cons] at h
    unfold Go.Proofs.Ytijiackjlgpgpaa.del
    by_cases e : a.k = k
    · rw [List.filter_cons_of_neg (by simp [e])]
      have : r.filter (fun x => decide (x.k ≠ k)) = r := by
        rw [List.filter_eq_self]
        intro b hb
        have := h.1 b hb
        simp only [decide_eq_true_eq]; omega
      rw [this]; rfl
    · rw [List.filter_cons_of_pos (by simp [e])]
      have h2 : hasK r k = true := by
        obtain ⟨b, hb, hk2⟩ := (hasK_iff _ _).1 hk
        rcases List.mem_cons.1 hb with rfl | hb
        · exact absurd hk2 e
        · exact (hasK_iff _ _).2 ⟨b, hb, hk2⟩
      have := ih h.2 h2
      unfold Go.Proofs.Ytijiackjlgpgpaa.del at this
      simp only [List.length_cons]
      omega

theorem Tk.len {X : Type} {M : List (En X)} {m : Nat} (h : Tk M m) : M.length ≤ m := by
  obtain ⟨h1, h2⟩ := h
  have key : ∀ (M : List (En X)) (lo : Int), M.Pairwise (fun a b => a.k < b.k) → (∀ e ∈ M, lo < e.k ∧ e.k ≤ (m : Int)) → lo ≤ (m : Int) → (M.length : Int) ≤ (m : Int) - lo := by
    intro M
    induction M with
    | nil => intro lo _ _ h; simp; omega
    | cons a r ih =>
      intro lo hp hb _
      rw [List.pairwise_cons] at hp
      have ha := hb a (List.mem_cons_self ..)
      have := ih a.k hp.2 (fun e he => ⟨hp.1 e he, (hb e (List.mem_cons_of_mem _ he)).2⟩) ha.2
      simp only [List.length_cons]
      omega
  have := key M 0 h1 (fun e he => by have := h2 e he; omega) (by omega)
  omega

theorem Hp.lower {w : World} {lo lo' b n : Nat} {M : List (En Int)} (h : Hp w lo b n M) (hl : lo' ≤ lo) : Hp w lo' b n M := by
  obtain ⟨⟨g, bm, h1, h2, h3⟩, h4⟩ := h
  exact ⟨⟨g, bm, h1, by omega, by omega⟩, by omega⟩

end Go.Proofs.Ytijiackjlgpgpaa
