/-
  How many of a heap's things are due. Plain.
-/
import Derived.Test.YtchmbnfalaijhaaHpModel
namespace Go.Proofs.Ytchmbnfalaijhaa
open Go.RowKit
set_option linter.unusedVariables false

def cnt {X : Type} (M : List (En X)) (now : Int) : Nat := (M.filter (fun e => decide (e.t ≤ now))).length

theorem cnt_le {X : Type} (M : List (En X)) (now : Int) : cnt M now ≤ M.length := List.length_filter_le _ _

theorem cnt_yes {X : Type} (M : List (En X)) (now : Int) (e : En X) (h : e.t ≤ now) : cnt (M ++ [e]) now = cnt M now + 1 := by
  unfold cnt
  rw [List.filter_append, List.length_append, List.filter_cons_of_pos (by simp [h])]; rfl

theorem cnt_no {X : Type} (M : List (En X)) (now : Int) (e : En X) (h : ¬ e.t ≤ now) : cnt (M ++ [e]) now = cnt M now := by
  unfold cnt
  rw [List.filter_append, List.length_append, List.filter_cons_of_neg (by simp [h])]; rfl

theorem cnt_del {X : Type} {M : List (En X)} (h : M.Pairwise (fun a b => a.k < b.k)) {now : Int} {e : En X} (he : e ∈ M) (ht : e.t ≤ now) : cnt (del M e.k) now + 1 = cnt M now := by
  have h1 := Tk.delLen (M := M.filter (fun e => decide (e.t ≤ now))) (h.filter _) e.k ((hasK_iff _ _).2 ⟨e, List.mem_filter.2 ⟨he, by simp [ht]⟩, rfl⟩)
  unfold cnt
  rw [← h1]
  unfold del
  rw [List.filter_filter, List.filter_filter]
  congr 3
  funext x
  rw [Bool.and_comm]

theorem cnt_pos {X : Type} {M : List (En X)} {now : Int} {e : En X} (he : Le M e) (h : 0 < cnt M now) : e.t ≤ now := by
  unfold cnt at h
  obtain ⟨d, hd⟩ := List.exists_mem_of_length_pos h
  rw [List.mem_filter] at hd
  have h1 := he.2 d hd.1
  have h2 : d.t ≤ now := by simpa using hd.2
  unfold lt3 at h1; omega

theorem cnt_zero {X : Type} {M : List (En X)} {now : Int} {e : En X} (he : e ∈ M) (h : cnt M now = 0) : now < e.t := by
  unfold cnt at h
  have h1 : M.filter (fun e => decide (e.t ≤ now)) = [] := List.eq_nil_of_length_eq_zero h
  have : ¬ e.t ≤ now := fun q => by
    have : e ∈ M.filter (fun e => decide (e.t ≤ now)) := List.mem_filter.2 ⟨he, by simp [q]⟩
    rw [h1] at this; cases this
  omega

end Go.Proofs.Ytchmbnfalaijhaa
