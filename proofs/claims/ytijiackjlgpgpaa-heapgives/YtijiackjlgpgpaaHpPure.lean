/-
  A heap's things: which comes out ahead, where they stand, what a heap's order is. Plain.
-/
import Derived.Test.YtijiackjlgpgpaaHpOrd
import Derived.Test.YtijiackjlgpgpaaHpMap
namespace Go.Proofs.Ytijiackjlgpgpaa
open Go.RowKit
set_option linter.unusedVariables false

/-- a thing that is there: its tick, its ticket, itself -/
structure En (X : Type) where
  t : Int
  k : Int
  x : X

def ahB {X : Type} (e d : En X) : Bool := decide (ordI e.t e.k d.t d.k < 0)

/-- e comes out ahead of d -/
def lt3 {X : Type} (e d : En X) : Prop := e.t < d.t ∨ e.t = d.t ∧ e.k < d.k

theorem cmpI_lt {a b : Int} (h : a < b) : cmpI a b = -1 := by unfold cmpI; rw [if_pos h]
theorem cmpI_eq {a b : Int} (h : a = b) : cmpI a b = 0 := by unfold cmpI; rw [if_neg (by omega), if_neg (by omega)]
theorem cmpI_gt {a b : Int} (h : b < a) : cmpI a b = 1 := by unfold cmpI; rw [if_neg (by omega), if_pos h]

theorem ahB_iff {X : Type} (e d : En X) : ahB e d = true ↔ lt3 e d := by
  unfold ahB lt3 ordI
  rw [decide_eq_true_eq]
  rcases Int.lt_trichotomy e.t d.t with h | h | h
  · rw [cmpI_lt h]; exact ⟨fun _ => .inl h, fun _ => (by show (-1 : Int) < 0; decide)⟩
  · rw [cmpI_eq h]
    show cmpI e.k d.k < 0 ↔ _
    rcases Int.lt_trichotomy e.k d.k with h2 | h2 | h2
    · rw [cmpI_lt h2]; exact ⟨fun _ => .inr ⟨h, h2⟩, fun _ => by decide⟩
    · rw [cmpI_eq h2]; exact ⟨fun q => by omega, fun q => by omega⟩
    · rw [cmpI_gt h2]; exact ⟨fun q => by omega, fun q => by omega⟩
  · rw [cmpI_gt h]; exact ⟨fun q => absurd q (by show ¬ (1 : Int) < 0; decide), fun q => by omega⟩

theorem ahB_no {X : Type} {e d : En X} (h : ¬ lt3 e d) : ahB e d = false := by
  cases hb : ahB e d
  · rfl
  · exact absurd ((ahB_iff e d).1 hb) h

theorem lt3_trans {X : Type} {a b c : En X} (h1 : ¬ lt3 b a) (h2 : ¬ lt3 c b) : ¬ lt3 c a := by
  unfold lt3 at *; omega

theorem lt3_asymm {X : Type} {a b : En X} (h1 : lt3 a b) : ¬ lt3 b a := by
  unfold lt3 at *; omega

theorem lt3_irrefl {X : Type} (a : En X) : ¬ lt3 a a := by
  unfold lt3; omega

theorem Fr.same {P : Nat → Prop} {w w1 w2 : World} (h : Fr P w w1) (e : w2.heap = w1.heap) (h1 : w2.os = w1.os) (h2 : w2.tape = w1.tape) (h3 : w2.output = w1.output) : Fr P w w2 :=
  ⟨h1.trans h.os, h2.trans h.tape, h3.trans h.output, by rw [e]; exact h.size, fun k hk hn => by rw [e]; exact h.block k hk hn⟩

/-- the places as the list has them -/
def PL {X : Type} (L : List (En X)) (f : Int → Option Nat) : Prop := ∀ (t : Int) (i : Nat), f t = some i ↔ ∃ e, L[i]? = some e ∧ e.k = t

theorem PL.inj {X : Type} {L : List (En X)} {f : Int → Option Nat} (h : PL L f) {i j : Nat} {e d : En X} (he : L[i]? = some e) (hd : L[j]? = some d) (hk : e.k = d.k) : i = j := by
  have h1 := (h e.k i).2 ⟨e, he, rfl⟩
  have h2 := (h e.k j).2 ⟨d, hd, hk.symm⟩
  rw [h1] at h2
  exact Option.some.inj h2

theorem swap_get {X : Type} {L : List (En X)} {i j : Nat} {e d : En X} (he : L[i]? = some e) (hd : L[j]? = some d) (k : Nat) : ((L.set i d).set j e)[k]? = if k = j then some e else if k = i then some d else L[k]? := by
  have hi := (List.getElem?_eq_some_iff.1 he).1
  have hj := (List.getElem?_eq_some_iff.1 hd).1
  rw [List.getElem?_set, List.getElem?_set]
  by_cases h1 : j = k
  · subst h1; simp [hj]
  · rw [if_neg h1, if_neg (show ¬ k = j from fun e => h1 e.symm)]
    by_cases h2 : i = k
    · subst h2; simp [hi]
    · rw [if_neg h2, if_neg (show ¬ k = i from fun e => h2 e.symm)]

theorem PL.swap {X : Type} {L : List (En X)} {f : Int → Option Nat} (h : PL L f) {i j : Nat} {e d : En X} (he : L[i]? = some e) (hd : L[j]? = some d) : PL ((L.set i d).set j e) (upd (upd f d.k (some i)) e.k (some j)) := by
  intro t k
  rw [swap_get he hd]
  by_cases h1 : t = e.k
  · subst h1
    rw [upd_same]
    constructor
    · intro q; cases q; exact ⟨e, by simp, rfl⟩
    · rintro ⟨c, hc, hk⟩
      split at hc
      · rename_i h2; rw [h2]
      · rename_i h2
        split at hc
        · rename_i h3
          cases hc
          have := h.inj hd he hk
          omega
        · have := h.inj hc he hk
          omega
  · rw [upd_other _ _ h1]
    by_cases h2 : t = d.k
    · subst h2
      rw [upd_same]
      constructor
      · intro q
        cases q
        have : i ≠ j := fun q => by subst q; rw [he] at hd; cases hd; exact h1 rfl
        exact ⟨d, by rw [if_neg this, if_pos rfl], rfl⟩
      · rintro ⟨c, hc, hk⟩
        split at hc
        · cases hc; exact absurd hk.symm h1
        · split at hc
          · rename_i h3; rw [h3]
          · have := h.inj hc hd hk
            omega
    · rw [upd_other _ _ h2, h t k]
      constructor
      · rintro ⟨c, hc, hk⟩
        refine ⟨c, ?_, hk⟩
        rw [if_neg (fun q => ?_), if_neg (fun q => ?_)]
        · exact hc
        · subst q; rw [he] at hc; cases hc; exact h1 hk.symm
        · subst q; rw [hd] at hc; cases hc; exact h2 hk.symm
      · rintro ⟨c, hc, hk⟩
        refine ⟨c, ?_, hk⟩
        split at hc
        · cases hc; exact absurd hk.symm h1
        · split at hc
          · cases hc; exact absurd hk.symm h2
          · exact hc

theorem swap_perm {X : Type} {L : List (En X)} {i j : Nat} {e d : En X} (he : L[i]? = some e) (hd : L[j]? = some d) : ((L.set i d).set j e).Perm L := by
  obtain ⟨hi, rfl⟩ := List.getElem?_eq_some_iff.1 he
  obtain ⟨hj, rfl⟩ := List.getElem?_eq_some_iff.1 hd
  exact List.set_set_perm hi hj

/-- a thing and the one above it, in order -/
def Ok {X : Type} (L : List (En X)) (i : Nat) : Prop := ∀ e d, L[i]? = some e → L[(i - 1) / 2]? = some d → ¬ lt3 e d

/-- the heap's order -/
def HO {X : Type} (L : List (En X)) : Prop := ∀ i, 0 < i → Ok L i

/-- those below p are not due ahead of the one above p -/
def Gp {X : Type} (L : List (En X)) (p : Nat) : Prop := 0 < p → ∀ i e d, 0 < i → (i - 1) / 2 = p → L[i]? = some e → L[(p - 1) / 2]? = some d → ¬ lt3 e d

def Mid {X : Type} (L : List (En X)) (p : Nat) : Prop := (∀ i, 0 < i → i ≠ p → (i - 1) / 2 ≠ p → Ok L i) ∧ Gp L p
def Dn {X : Type} (L : List (En X)) (p : Nat) : Prop := (∀ i, 0 < i → (i - 1) / 2 ≠ p → Ok L i) ∧ Gp L p

/-- while a thing rises from p, being at q -/
def Ri {X : Type} (L : List (En X)) (p q : Nat) : Prop := (∀ i, 0 < i → i ≠ q → (q = p → (i - 1) / 2 ≠ p) → Ok L i) ∧ Gp L q

theorem HO.gp {X : Type} {L : List (En X)} (h : HO L) (p : Nat) : Gp L p := by
  intro hp i e d hi hip he hd
  have hl := (List.getElem?_eq_some_iff.1 he).1
  obtain ⟨c, hc⟩ : ∃ c, L[p]? = some c := ⟨L[p]'(by omega), List.getElem?_eq_getElem _⟩
  exact lt3_trans (h p hp c d hc hd) (h i hi e c he (by rw [hip]; exact hc))

theorem HO.dn {X : Type} {L : List (En X)} (h : HO L) (p : Nat) : Dn L p := ⟨fun i hi _ => h i hi, h.gp p⟩

theorem Mid.ri {X : Type} {L : List (En X)} {p : Nat} (h : Mid L p) : Ri L p p := ⟨fun i hi hne hp => h.1 i hi hne (hp rfl), h.2⟩

/-- it stands at the head -/
theorem Ri.head {X : Type} {L : List (En X)} {p : Nat} (h : Ri L p 0) : Dn L p := by
  by_cases e : 0 = p
  · subst e
    exact ⟨fun i hi hne => h.1 i hi (by omega) (fun _ => hne), fun hp => by omega⟩
  · exact (show HO L from fun i hi => h.1 i hi (by omega) (fun q => absurd q e)).dn p

/-- it isn't due ahead of the one above it -/
theorem Ri.stop {X : Type} {L : List (En X)} {p q : Nat} (h : Ri L p q) (hq : Ok L q) : Dn L p := by
  by_cases e : q = p
  · subst e
    exact ⟨fun i hi hne => by
      by_cases e2 : i = q
      · rw [e2]; exact hq
      · exact h.1 i hi e2 (fun _ => hne), h.2⟩
  · refine (show HO L from fun i hi => ?_).dn p
    by_cases e2 : i = q
    · rw [e2]; exact hq
    · exact h.1 i hi e2 (fun q => absurd q e)

theorem Ri.step {X : Type} {L : List (En X)} {p q : Nat} (h : Ri L p q) (hq0 : 0 < q) {e d : En X} (he : L[q]? = some e) (hd : L[(q - 1) / 2]? = some d) (ha : lt3 e d) : Ri ((L.set q d).set ((q - 1) / 2) e) p ((q - 1) / 2) := by
  have G := swap_get he hd
  constructor
  · intro i hi hne _ x y hx hy
    rw [G, if_neg hne] at hx
    rw [G] at hy
    by_cases h1 : i = q
    · subst h1
      rw [if_pos rfl] at hx hy
      cases hx; cases hy
      exact lt3_asymm ha
    · rw [if_neg h1] at hx
      by_cases h2 : (i - 1) / 2 = (q - 1) / 2
      · rw [if_pos h2] at hy
        cases hy
        have := h.1 i hi h1 (fun e => by omega) x d hx (by rw [h2]; exact hd)
        exact lt3_trans (lt3_asymm ha) this
      · rw [if_neg h2] at hy
        by_cases h3 : (i - 1) / 2 = q
        · rw [if_pos h3] at hy
          cases hy
          exact h.2 hq0 i x d hi h3 hx hd
        · rw [if_neg h3] at hy
          exact h.1 i hi h1 (fun e => by rw [← e]; exact h3) x y hx hy
  · intro hp i x y hi hip hx hy
    rw [G, if_neg (by omega)] at hx
    rw [G, if_neg (by omega), if_neg (by omega)] at hy
    have hA := h.1 ((q - 1) / 2) hp (by omega) (fun e => by omega) d y hd hy
    by_cases h1 : i = q
    · rw [if_pos h1] at hx; cases hx; exact hA
    · rw [if_neg h1] at hx
      exact lt3_trans hA (h.1 i hi h1 (fun e => by omega) x d hx (by rw [hip]; exact hd))

/-- a thing at p sinks no more -/
theorem Dn.stop {X : Type} {L : List (En X)} {p : Nat} (h : Dn L p) {e : En X} (he : L[p]? = some e) (hc : ∀ i c, 0 < i → (i - 1) / 2 = p → L[i]? = some c → ¬ lt3 c e) : HO L := by
  intro i hi
  by_cases h1 : (i - 1) / 2 = p
  · intro x y hx hy
    rw [h1, he] at hy
    cases hy
    exact hc i x hi h1 hx
  · exact h.1 i hi h1

theorem Dn.step {X : Type} {L : List (En X)} {p m : Nat} (h : Dn L p) {e d : En X} (he : L[p]? = some e) (hd : L[m]? = some d) (hm0 : 0 < m) (hm : (m - 1) / 2 = p) (ha : lt3 d e) (hc : ∀ i c, 0 < i → (i - 1) / 2 = p → L[i]? = some c → ¬ lt3 c d) : Dn ((L.set p d).set m e) m := by
  have G := swap_get he hd
  constructor
  · intro i hi hne x y hx hy
    rw [G] at hx
    rw [G, if_neg hne] at hy
    by_cases h1 : i = m
    · rw [if_pos h1] at hx
      rw [h1, if_pos hm] at hy
      cases hx; cases hy
      exact lt3_asymm ha
    · rw [if_neg h1] at hx
      by_cases h2 : i = p
      · rw [if_pos h2] at hx
        rw [if_neg (by omega)] at hy
        cases hx
        rw [h2] at hi hy
        exact h.2 hi m d y hm0 hm hd hy
      · rw [if_neg h2] at hx
        by_cases h3 : (i - 1) / 2 = p
        · rw [if_pos h3] at hy
          cases hy
          exact hc i x hi h3 hx
        · rw [if_neg h3] at hy
          exact h.1 i hi h3 x y hx hy
  · intro _ i x y hi him hx hy
    rw [G, if_neg (by omega), if_neg (by omega)] at hx
    rw [G, if_neg (by omega), if_pos hm] at hy
    cases hy
    exact h.1 i hi (by omega) x d hx (by rw [him]; exact hd)

/-- the head is due first -/
theorem HO.least {X : Type} {L : List (En X)} (h : HO L) {e : En X} (he : L[0]? = some e) : ∀ (i : Nat) (d : En X), L[i]? = some d → ¬ lt3 d e := by
  intro i
  induction i using Nat.strongRecOn with
  | _ i ih =>
    intro d hd
    by_cases h0 : i = 0
    · subst h0; rw [he] at hd; cases hd; exact lt3_irrefl _
    · have hl := (List.getElem?_eq_some_iff.1 hd).1
      obtain ⟨c, hc⟩ : ∃ c, L[(i - 1) / 2]? = some c := ⟨L[(i - 1) / 2]'(by omega), List.getElem?_eq_getElem _⟩
      exact lt3_trans (ih _ (by omega) c hc) (h i (by omega) d c hd hc)

theorem get_some {X : Type} {L : List (En X)} {i : Nat} (h : i < L.length) : ∃ e, L[i]? = some e := ⟨L[i], List.getElem?_eq_getElem h⟩

end Go.Proofs.Ytijiackjlgpgpaa
