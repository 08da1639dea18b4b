/-
  The last thing of a heap's list is cut off. Plain.
-/
import Derived.Test.YtijiackjlgpgpaaHpPure
namespace Go.Proofs.Ytijiackjlgpgpaa
open Go.RowKit
set_option linter.unusedVariables false

/-- all but the thing with this ticket -/
def del {X : Type} (M : List (En X)) (k : Int) : List (En X) := M.filter (fun x => decide (x.k ≠ k))

theorem drop_get {X : Type} {L : List (En X)} {m : Nat} (hm : L.length = m + 1) (i : Nat) : L.dropLast[i]? = if i < m then L[i]? else none := by
  rw [List.getElem?_dropLast, hm]; rfl

theorem drop_snoc {X : Type} {L : List (En X)} {m : Nat} {e : En X} (hm : L.length = m + 1) (he : L[m]? = some e) : L.dropLast ++ [e] = L := by
  have h0 : L ≠ [] := fun h => by rw [h] at hm; simp at hm
  have h1 := List.dropLast_concat_getLast h0
  have h2 : L.getLast h0 = e := by
    rw [List.getLast_eq_getElem]
    have := (List.getElem?_eq_some_iff.1 he).2
    simp only [hm, Nat.add_sub_cancel]
    exact this
  rw [h2] at h1
  exact h1

theorem PL.cut {X : Type} {L : List (En X)} {f : Int → Option Nat} (h : PL L f) {m : Nat} {e : En X} (hm : L.length = m + 1) (he : L[m]? = some e) : PL L.dropLast (upd f e.k none) := by
  intro t i
  rw [drop_get hm]
  by_cases h1 : t = e.k
  · subst h1
    rw [upd_same]
    constructor
    · intro q; cases q
    · rintro ⟨c, hc, hk⟩
      split at hc
      · have := h.inj hc he hk; omega
      · cases hc
  · rw [upd_other _ _ h1, h t i]
    constructor
    · rintro ⟨c, hc, hk⟩
      have hl := (List.getElem?_eq_some_iff.1 hc).1
      refine ⟨c, ?_, hk⟩
      rw [if_pos]
      · exact hc
      · by_cases h2 : i = m
        · subst h2; rw [he] at hc; cases hc; exact absurd hk.symm h1
        · omega
    · rintro ⟨c, hc, hk⟩
      split at hc
      · exact ⟨c, hc, hk⟩
      · cases hc

theorem PL.cutPerm {X : Type} {L M : List (En X)} {f : Int → Option Nat} (h : PL L f) (hM : L.Perm M) {m : Nat} {e : En X} (hm : L.length = m + 1) (he : L[m]? = some e) : L.dropLast.Perm (del M e.k) := by
  have h1 : (del L e.k).Perm (del M e.k) := hM.filter _
  have h2 : del L e.k = L.dropLast := by
    have h3 : del (L.dropLast ++ [e]) e.k = L.dropLast := by
      unfold del
      rw [List.filter_append]
      have h4 : L.dropLast.filter (fun x => decide (x.k ≠ e.k)) = L.dropLast := by
        rw [List.filter_eq_self]
        intro x hx
        obtain ⟨i, hi⟩ := List.getElem?_of_mem hx
        rw [drop_get hm] at hi
        split at hi
        · simp only [decide_eq_true_eq]
          intro hk
          have := h.inj hi he hk; omega
        · cases hi
      rw [h4]
      simp
    rw [drop_snoc hm he] at h3
    exact h3
  rw [h2] at h1
  exact h1

theorem HO.cut {X : Type} {L : List (En X)} (h : HO L) {m : Nat} (hm : L.length = m + 1) : HO L.dropLast := by
  intro i hi x y hx hy
  rw [drop_get hm] at hx hy
  split at hx
  · split at hy
    · exact h i hi x y hx hy
    · cases hy
  · cases hx

theorem HO.mid {X : Type} {L : List (En X)} (h : HO L) {m p : Nat} {e d : En X} (hm : L.length = m + 1) (hp : p < m) (he : L[p]? = some e) (hd : L[m]? = some d) : Mid ((L.set p d).set m e).dropLast p := by
  have G : ∀ i, ((L.set p d).set m e).dropLast[i]? = if i < m then (if i = p then some d else L[i]?) else none := fun i => by
    rw [drop_get (m := m) (by simp [hm]), swap_get he hd]
    by_cases h1 : i < m
    · rw [if_pos h1, if_pos h1, if_neg (by omega)]
    · rw [if_neg h1, if_neg h1]
  constructor
  · intro i hi hne hnp x y hx hy
    rw [G] at hx hy
    split at hx
    · try rw [if_neg hne] at hx
      split at hy
      · try rw [if_neg hnp] at hy
        exact h i hi x y hx hy
      · cases hy
    · cases hx
  · intro hp0 i x y hi hip hx hy
    rw [G] at hx hy
    split at hx
    · try rw [if_neg (by omega)] at hx
      split at hy
      · try rw [if_neg (by omega)] at hy
        exact h.gp p hp0 i x y hi hip hx hy
      · cases hy
    · cases hx

theorem Mid.last {X : Type} {L : List (En X)} {p : Nat} (hm : L.length = p + 1) (h : ∀ i, 0 < i → i < p → Ok L i) : Mid L p := by
  constructor
  · intro i hi hne _ x y hx hy
    have := (List.getElem?_eq_some_iff.1 hx).1
    exact h i hi (by omega) x y hx hy
  · intro _ i x y hi hip hx hy
    have := (List.getElem?_eq_some_iff.1 hx).1
    omega

theorem Dn.last {X : Type} {L : List (En X)} {p : Nat} (hm : L.length = p + 1) (h : Dn L p) : HO L := by
  intro i hi x y hx hy
  have := (List.getElem?_eq_some_iff.1 hx).1
  exact h.1 i hi (by omega) x y hx hy

theorem PL.snoc {X : Type} {L : List (En X)} {f : Int → Option Nat} (h : PL L f) {e : En X} (hk : ∀ (i : Nat) (x : En X), L[i]? = some x → x.k ≠ e.k) : PL (L ++ [e]) (upd f e.k (some L.length)) := by
  intro t i
  by_cases h1 : t = e.k
  · subst h1
    rw [upd_same]
    constructor
    · intro q; cases q; exact ⟨e, by simp, rfl⟩
    · rintro ⟨c, hc, hc2⟩
      rw [List.getElem?_append] at hc
      split at hc
      · exact absurd hc2 (hk _ _ hc)
      · have := (List.getElem?_eq_some_iff.1 hc).1
        simp at this
        rw [show i = L.length by omega]
  · rw [upd_other _ _ h1, h t i]
    constructor
    · rintro ⟨c, hc, hc2⟩
      exact ⟨c, by rw [List.getElem?_append_left (List.getElem?_eq_some_iff.1 hc).1]; exact hc, hc2⟩
    · rintro ⟨c, hc, hc2⟩
      rw [List.getElem?_append] at hc
      split at hc
      · exact ⟨c, hc, hc2⟩
      · have := (List.getElem?_eq_some_iff.1 hc).1
        simp at this
        obtain rfl : i = L.length := by omega
        simp at hc
        subst hc
        exact absurd hc2.symm h1

theorem HO.snoc {X : Type} {L : List (En X)} (h : HO L) (e : En X) : Mid (L ++ [e]) L.length := by
  refine Mid.last (by simp) fun i hi hl x y hx hy => ?_
  rw [List.getElem?_append_left hl] at hx
  rw [List.getElem?_append_left (by omega)] at hy
  exact h i hi x y hx hy

/-- e is due first of M -/
def Le {X : Type} (M : List (En X)) (e : En X) : Prop := e ∈ M ∧ ∀ d ∈ M, ¬ lt3 d e

/-- is a thing with this ticket there? -/
def hasK {X : Type} (M : List (En X)) (k : Int) : Bool := M.any (fun e => decide (e.k = k))

theorem hasK_iff {X : Type} (M : List (En X)) (k : Int) : hasK M k = true ↔ ∃ e ∈ M, e.k = k := by
  unfold hasK; simp

theorem del_of_not {X : Type} {M : List (En X)} {k : Int} (h : hasK M k = false) : del M k = M := by
  unfold del
  rw [List.filter_eq_self]
  intro a ha
  simp only [decide_eq_true_eq]
  intro hk
  have := (hasK_iff M k).2 ⟨a, ha, hk⟩
  rw [h] at this; cases this

end Go.Proofs.Ytijiackjlgpgpaa
