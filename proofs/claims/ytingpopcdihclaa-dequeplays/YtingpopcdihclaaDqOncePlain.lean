/-
  What was pushed and what has come out: two rows of truths beside a deque; how many accesses a thread has left. Of no program.
-/
import Derived.Test.YtingpopcdihclaaDqInv
namespace Go.Proofs.Ytingpopcdihclaa
set_option linter.unusedVariables false

theorem stp_thi (S : Nat) (d : Dq) {k i : Nat} (hk : i ≠ k) (h1 : 0 < (d.th k).pc) (h2 : (d.th k).pc ≤ 14) : (stp S d k).1.th i = d.th i := by
  obtain ⟨p, hp⟩ : ∃ p, (d.th k).pc = p := ⟨_, rfl⟩
  rw [hp] at h1 h2
  have hpc : p = 1 ∨ p = 2 ∨ p = 3 ∨ p = 4 ∨ p = 5 ∨ p = 6 ∨ p = 7 ∨ p = 8 ∨ p = 9 ∨ p = 10 ∨ p = 11 ∨ p = 12 ∨ p = 13 ∨ p = 14 := by omega
  have h0 : ∀ (d' : Dq) (r : Rn), (d'.set k r).th i = d'.th i := fun d' r => set_ne d' r hk
  rcases hpc with rfl | rfl | rfl | rfl | rfl | rfl | rfl | rfl | rfl | rfl | rfl | rfl | rfl | rfl
  · rw [stp_1 S d k hp]; exact h0 _ _
  · rw [stp_2 S d k hp]; split <;> exact h0 _ _
  · rw [stp_3 S d k hp]; exact h0 _ _
  · rw [stp_4 S d k hp]; exact h0 _ _
  · rw [stp_5 S d k hp]; exact h0 _ _
  · rw [stp_6 S d k hp]; exact h0 _ _
  · rw [stp_7 S d k hp]; split <;> exact h0 _ _
  · rw [stp_8 S d k hp]; split <;> exact h0 _ _
  · rw [stp_9 S d k hp]; split <;> exact h0 _ _
  · rw [stp_10 S d k hp]; split <;> exact h0 _ _
  · rw [stp_11 S d k hp]; exact h0 _ _
  · rw [stp_12 S d k hp]; split <;> exact h0 _ _
  · rw [stp_13 S d k hp]; exact h0 _ _
  · rw [stp_14 S d k hp]; split <;> exact h0 _ _

/-- how many accesses are left at most -/
def rem (p : Nat) : Nat := if p = 0 then 0 else if p ≤ 4 then 5 - p else if p ≤ 10 then 11 - p else 15 - p

theorem rem_le {p : Nat} (h : p ≤ 14) : rem p ≤ 6 := by
  unfold rem
  split
  · omega
  · split
    · omega
    · split <;> omega
theorem rem_zero {p : Nat} (h : p ≤ 14) (h0 : rem p = 0) : p = 0 := by
  unfold rem at h0
  split at h0
  · omega
  · split at h0
    · omega
    · split at h0 <;> omega

theorem stp_rem (S : Nat) (d : Dq) {k : Nat} (h1 : 0 < (d.th k).pc) (h2 : (d.th k).pc ≤ 14) : rem ((stp S d k).1.th k).pc + 1 ≤ rem (d.th k).pc := by
  obtain ⟨p, hp⟩ : ∃ p, (d.th k).pc = p := ⟨_, rfl⟩
  rw [hp] at h1 h2 ⊢
  have hpc : p = 1 ∨ p = 2 ∨ p = 3 ∨ p = 4 ∨ p = 5 ∨ p = 6 ∨ p = 7 ∨ p = 8 ∨ p = 9 ∨ p = 10 ∨ p = 11 ∨ p = 12 ∨ p = 13 ∨ p = 14 := by omega
  have hg : ∀ (d' : Dq) (r : Rn) (c : Nat), ((goOn d' k r c).1.th k).pc = c := fun d' r c => by simp [goOn, set_th]
  have hf : ∀ (d' : Dq) (a b c : Int), ((fin d' k a b c).1.th k).pc = 0 := fun d' a b c => by simp [fin, set_th, Rn.zero]
  rcases hpc with rfl | rfl | rfl | rfl | rfl | rfl | rfl | rfl | rfl | rfl | rfl | rfl | rfl | rfl
  · rw [stp_1 S d k hp, hg]; decide
  · rw [stp_2 S d k hp]; split
    · rw [hf]; decide
    · rw [hg]; decide
  · rw [stp_3 S d k hp, hg]; decide
  · rw [stp_4 S d k hp, hf]; decide
  · rw [stp_5 S d k hp, hg]; decide
  · rw [stp_6 S d k hp, hg]; decide
  · rw [stp_7 S d k hp]; split
    · rw [hg]; decide
    · rw [hg]; decide
  · rw [stp_8 S d k hp]; split
    · rw [hf]; decide
    · rw [hg]; decide
  · rw [stp_9 S d k hp]; split
    · rw [hg]; decide
    · rw [hg]; decide
  · rw [stp_10 S d k hp]; split
    · rw [hf]; decide
    · rw [hf]; decide
  · rw [stp_11 S d k hp, hg]; decide
  · rw [stp_12 S d k hp]; split
    · rw [hf]; decide
    · rw [hg]; decide
  · rw [stp_13 S d k hp, hg]; decide
  · rw [stp_14 S d k hp]; split
    · rw [hf]; decide
    · rw [hf]; decide

def put (f : Nat → Bool) (v : Nat) : Nat → Bool := fun i => if i = v then true else f i
theorem put_at (f : Nat → Bool) (v : Nat) : put f v v = true := by simp [put]
theorem put_ne (f : Nat → Bool) {v i : Nat} (h : i ≠ v) : put f v i = f i := by simp [put, h]

/-- what has been pushed, what has come out -/
structure Onc (d : Dq) (L K : List Int) (n : Int) (fI fO : Nat → Bool) : Prop where
  mem : ∀ v : Nat, (fI v = true ∧ fO v = false) ↔ (v : Int) ∈ L ++ K
  sub : ∀ v, fO v = true → fI v = true
  new : ∀ v : Nat, n < v → fI v = false
  pu : Pu d → ∀ v : Nat, (v : Int) = n → fI v = false

theorem onc_new {n : Int} (hn : n = 0) : Onc ⟨0, 0, fun _ => 0, fun _ => Rn.zero⟩ [] [] n (fun _ => false) (fun _ => false) :=
  ⟨fun v => by simp, fun v h => by simp at h, fun v _ => rfl, fun _ v _ => rfl⟩

theorem onc_nxt {d : Dq} {L K : List Int} {n : Int} {fI fO : Nat → Bool} (O : Onc d L K n fI fO) (k : Nat) (p : Bool) : Onc (nxt d k p n).1 L K (nxt d k p n).2 fI fO := by
  obtain ⟨o1, o2, o3, o4⟩ := O
  unfold nxt
  by_cases h : 0 < (d.th k).pc
  · rw [if_pos h]; exact ⟨o1, o2, o3, o4⟩
  · rw [if_neg h]
    by_cases hk : k = 0
    · subst hk
      rw [if_pos rfl]
      cases p with
      | true => exact ⟨o1, o2, fun v hv => o3 v (by have : n + 1 < (v : Int) := hv; omega), fun _ v hv => o3 v (by have : (v : Int) = n + 1 := hv; omega)⟩
      | false => exact ⟨o1, o2, o3, fun h => by simp [Pu, set_th] at h⟩
    · rw [if_neg hk]
      have e : (d.set k ⟨11, n + 1, 0, 0, false⟩).th 0 = d.th 0 := set_ne _ _ (by omega)
      exact ⟨o1, o2, o3, fun h => by unfold Pu at *; rw [e] at h; exact o4 h⟩

/-- the four ways of a step, as the law tells them apart -/
theorem onc_step {S : Nat} {d d2 : Dq} {L K L' K' : List Int} {k : Nat} {la n : Int} {y : Dn} {fI fO : Nat → Bool} (O : Onc d L K n fI fO) (V : Vals d L K la n) (hla : 0 ≤ la) (hE : Ev S d k L K L' K' y)
    (hpu : Pu d2 → Pu d) (hno : (d.th 0).pc = 4 → k = 0 → ¬ Pu d2) :
    (y.over = false ∧ Onc d2 L' K' n fI fO) ∨
    (y.over = true ∧ y.err ≠ 0 ∧ Onc d2 L' K' n fI fO) ∨
    (∃ v : Nat, 0 < v ∧ (v : Int) ≤ n ∧ y = ⟨true, 0, v, 0⟩ ∧ Onc d2 L' K' n (put fI v) fO) ∨
    (∃ v : Nat, ∃ op : Int, 0 < v ∧ (v : Int) ≤ n ∧ op ≠ 0 ∧ y = ⟨true, op, v, 0⟩ ∧ fO v = false ∧ Onc d2 L' K' n fI (put fO v)) := by
  obtain ⟨o1, o2, o3, o4⟩ := O
  have hp4 : Pu d2 → ∀ v : Nat, (v : Int) = n → fI v = false := fun h => o4 (hpu h)
  have hout : ∀ (X : List Int) (v : Nat), (∀ u : Nat, (u : Int) ∈ X ↔ ((u : Int) ∈ L ++ K ∧ u ≠ v)) → (v : Int) ∈ L ++ K → ∀ X1 X2, X1 ++ X2 = X → fO v = false ∧ Onc d2 X1 X2 n fI (put fO v) := fun X v hX hv X1 X2 e => by
    have hv2 := (o1 v).2 hv
    refine ⟨hv2.2, fun u => ?_, fun u hu => ?_, o3, hp4⟩
    · rw [e, hX u, ← o1 u]
      by_cases huv : u = v
      · subst huv; rw [put_at]; simp
      · rw [put_ne fO huv]; simp [huv]
    · by_cases huv : u = v
      · subst huv; exact hv2.1
      · rw [put_ne fO huv] at hu; exact o2 u hu
  cases hE with
  | quiet => exact .inl ⟨rfl, o1, o2, o3, hp4⟩
  | pushed _ v hk hp hv =>
    right; right; left
    have hP : Pu d := ⟨by omega, by omega⟩
    obtain ⟨h3, h4⟩ := V.push hP
    have h5 := V.lastn.2 hP
    rw [hv] at h3
    subst h3
    obtain ⟨u, rfl⟩ := Int.eq_ofNat_of_zero_le (show 0 ≤ v by omega)
    try simp only [Int.ofNat_eq_natCast] at *
    have hnew := o4 hP u rfl
    refine ⟨u, by omega, Int.le_refl _, rfl, fun i => ?_, fun i hi => ?_, fun i hi => ?_, fun h => (hno hp hk h).elim⟩
    · have := o1 i
      simp only [List.append_nil, List.mem_append, List.mem_singleton] at *
      by_cases hiu : i = u
      · subst hiu
        rw [put_at]
        have hO : fO i = false := by
          cases hh : fO i
          · rfl
          · have := o2 i hh; rw [hnew] at this; cases this
        simp [hO]
      · rw [put_ne fI hiu, this]
        constructor
        · intro h; exact .inl h
        · rintro (h | h)
          · exact h
          · exact absurd (by omega : i = u) hiu
    · by_cases hiu : i = u
      · subst hiu; exact put_at _ _
      · rw [put_ne fI hiu]; exact o2 i hi
    · rw [put_ne fI (by omega)]; exact o3 i hi
  | full => exact .inr (.inl ⟨rfl, by show (7 : Int) ≠ 0; omega, o1, o2, o3, hp4⟩)
  | took _ x => exact .inl ⟨rfl, fun v => by rw [o1 v, List.append_nil], o2, o3, hp4⟩
  | popped _ v =>
    right; right; right
    have hlo := V.low v (by simp)
    have hhi := V.high v (by simp)
    obtain ⟨u, rfl⟩ := Int.eq_ofNat_of_zero_le (show 0 ≤ v by omega)
    try simp only [Int.ofNat_eq_natCast] at *
    have hs := (List.pairwise_append.1 V.sort).2.2
    obtain ⟨h1, h2⟩ := hout L u (fun i => by
      simp only [List.mem_append, List.mem_singleton]
      constructor
      · intro h
        refine ⟨.inl h, fun e => ?_⟩
        have := hs _ h (u : Int) (by simp)
        omega
      · rintro ⟨h | h, hne⟩
        · exact h
        · exact absurd (by omega) hne) (by simp) L [] (by simp)
    exact ⟨u, 1, by omega, hhi, by decide, rfl, h1, h2⟩
  | empty => exact .inr (.inl ⟨rfl, by decide, o1, o2, o3, hp4⟩)
  | stole v _ _ hk =>
    right; right; right
    have hlo := V.low v (by simp)
    have hhi := V.high v (by simp)
    obtain ⟨u, rfl⟩ := Int.eq_ofNat_of_zero_le (show 0 ≤ v by omega)
    try simp only [Int.ofNat_eq_natCast] at *
    have hs := V.sort
    rw [List.cons_append] at hs
    have hs2 := (List.pairwise_cons.1 hs).1
    obtain ⟨h1, h2⟩ := hout (L' ++ K) u (fun i => by
      simp only [List.mem_append, List.mem_cons]
      constructor
      · intro h
        refine ⟨?_, fun e => ?_⟩
        · rcases h with h | h
          · exact .inl (.inr h)
          · exact .inr h
        · have := hs2 _ (List.mem_append.2 h)
          omega
      · rintro ⟨(h | h) | h, hne⟩
        · exact absurd (by omega) hne
        · exact .inl h
        · exact .inr h) (by simp) L' K rfl
    exact ⟨u, 2, by omega, hhi, by decide, rfl, h1, h2⟩
  | missed _ _ e hk he => exact .inr (.inl ⟨rfl, by show e ≠ 0; omega, o1, o2, o3, hp4⟩)

/-- a sorted list's beginning -/
theorem filter_le {L : List Int} (hs : L.Pairwise (· < ·)) {v : Int} (hv : v ∈ L) : L.filter (fun x => x < v + 1) = L.filter (fun x => x < v) ++ [v] := by
  induction L with
  | nil => simp at hv
  | cons y r ih =>
    obtain ⟨h1, h2⟩ := List.pairwise_cons.1 hs
    rcases List.mem_cons.1 hv with rfl | hv
    · have e1 : r.filter (fun x => x < v + 1) = [] := List.filter_eq_nil_iff.2 (fun x hx => by have := h1 x hx; simp; omega)
      have e2 : r.filter (fun x => x < v) = [] := List.filter_eq_nil_iff.2 (fun x hx => by have := h1 x hx; simp; omega)
      rw [List.filter_cons_of_pos (by simp; omega), List.filter_cons_of_neg (by simp), e1, e2]; rfl
    · have := h1 v hv
      rw [List.filter_cons_of_pos (by simp; omega), List.filter_cons_of_pos (by simp; omega), ih h2 hv]; rfl

theorem filter_no {L : List Int} {v : Int} (hv : v ∉ L) : L.filter (fun x => x < v + 1) = L.filter (fun x => x < v) := by
  apply List.filter_congr
  intro x hx
  have : x ≠ v := fun e => hv (e ▸ hx)
  simp; omega

end Go.Proofs.Ytingpopcdihclaa
