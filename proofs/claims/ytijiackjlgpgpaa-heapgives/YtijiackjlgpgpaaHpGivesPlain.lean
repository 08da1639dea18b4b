/-
  HeapGives, plain: a sorted copy there is; what comes out first.
-/
import Derived.Test.YtijiackjlgpgpaaHpModel
namespace Go.Proofs.Ytijiackjlgpgpaa
open Go.RowKit
set_option linter.unusedVariables false

theorem del_perm {M : List (En Int)} (h : M.Pairwise (fun a b => a.k < b.k)) {e : En Int} (he : e ∈ M) : M.Perm (e :: del M e.k) := by
  obtain ⟨A, B, rfl⟩ := List.append_of_mem he
  obtain ⟨h1, h2, h3⟩ := List.pairwise_append.1 h
  obtain ⟨h4, h5⟩ := List.pairwise_cons.1 h2
  have e1 : del (A ++ e :: B) e.k = A ++ B := by
    have a1 : A.filter (fun d => decide (d.k ≠ e.k)) = A := List.filter_eq_self.2 (fun d hd => by have := h3 d hd e (by simp); simp; omega)
    have a2 : B.filter (fun d => decide (d.k ≠ e.k)) = B := List.filter_eq_self.2 (fun d hd => by have := h4 d hd; simp; omega)
    unfold del
    rw [List.filter_append, List.filter_cons, a1, a2]
    simp
  rw [e1]
  exact List.perm_middle

theorem pop_step {M S : List (En Int)} {e : En Int} (h : M.Pairwise (fun a b => a.k < b.k)) (hp : (e :: S).Perm M) (hO : (e :: S).Pairwise (fun a b => lt3 a b)) : Le M e ∧ S.Perm (del M e.k) ∧ S.Pairwise (fun a b => lt3 a b) := by
  have he : e ∈ M := hp.subset (by simp)
  obtain ⟨h1, h2⟩ := List.pairwise_cons.1 hO
  refine ⟨⟨he, fun d hd hde => ?_⟩, (hp.trans (del_perm h he)).cons_inv, h2⟩
  rcases List.mem_cons.1 (hp.symm.subset hd) with rfl | hs
  · exact lt3_irrefl _ hde
  · have := h1 d hs
    unfold lt3 at *
    omega

theorem sorted_ex : ∀ (n : Nat) (M : List (En Int)), M.length = n → M.Pairwise (fun a b => a.k < b.k) → ∃ S : List (En Int), S.Perm M ∧ S.Pairwise (fun a b => lt3 a b)
  | 0, M, hl, _ => ⟨[], by rw [List.length_eq_zero_iff.1 hl], List.Pairwise.nil⟩
  | n + 1, M, hl, h => by
    obtain ⟨e, he⟩ := le_ex M (fun e => by rw [e] at hl; simp at hl)
    have hp := del_perm h he.1
    have hr : (del M e.k).Pairwise (fun a b => a.k < b.k) := h.sublist List.filter_sublist
    obtain ⟨S, hS, hO⟩ := sorted_ex n (del M e.k) (by have := hp.length_eq; simp at this; omega) hr
    refine ⟨e :: S, (hS.cons e).trans hp.symm, List.pairwise_cons.2 ⟨fun d hd => ?_, hO⟩⟩
    have hd2 : d ∈ del M e.k := hS.subset hd
    unfold del at hd2
    rw [List.mem_filter] at hd2
    have h1 := he.2 d hd2.1
    have h2 : d.k ≠ e.k := by simpa using hd2.2
    unfold lt3 at *
    omega

end Go.Proofs.Ytijiackjlgpgpaa
