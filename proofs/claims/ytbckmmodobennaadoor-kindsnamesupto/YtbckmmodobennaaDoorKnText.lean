/-
  Lists of types and their names: a text cut at its commas, names there and back. Plain functions, of no program.
-/
import Derived.Test.YtbckmmodobennaaDoorKnPure
import Derived.Lib.Split
import Derived.Lib.Join
namespace Go.Proofs.YtbckmmodobennaaDoor
set_option linter.unusedVariables false

/-- A text, cut at its commas. -/
def pieces : List UInt8 → List (List UInt8)
  | [] => [[]]
  | b :: l => if b = 44 then [] :: pieces l else match pieces l with
    | p :: r => (b :: p) :: r
    | [] => [[b]]

theorem pieces_free {a : List UInt8} (h : (44 : UInt8) ∉ a) : pieces a = [a] := by
  induction a with
  | nil => rfl
  | cons b l ih =>
    simp only [List.mem_cons, not_or] at h
    simp only [pieces, if_neg (Ne.symm h.1), ih h.2]

theorem pieces_ne (l : List UInt8) : pieces l ≠ [] := by
  cases l with
  | nil => simp [pieces]
  | cons b l =>
    unfold pieces
    split
    · simp
    · split <;> simp

theorem pieces_cut {a r : List UInt8} (h : (44 : UInt8) ∉ a) : pieces (a ++ 44 :: r) = a :: pieces r := by
  induction a with
  | nil => simp [pieces]
  | cons b l ih =>
    simp only [List.mem_cons, not_or] at h
    simp only [List.cons_append, pieces, if_neg (Ne.symm h.1), ih h.2]

/-- each text has no comma, or is cut at its first -/
theorem comma_form (l : List UInt8) : (44 : UInt8) ∉ l ∨ ∃ a r, (44 : UInt8) ∉ a ∧ l = a ++ 44 :: r := by
  induction l with
  | nil => left; simp
  | cons b l ih =>
    by_cases hb : b = 44
    · right; exact ⟨[], l, by simp, by simp [hb]⟩
    · rcases ih with h | ⟨a, r, h, rfl⟩
      · left; simp only [List.mem_cons, not_or]; exact ⟨Ne.symm hb, h⟩
      · right; exact ⟨b :: a, r, by simp only [List.mem_cons, not_or]; exact ⟨Ne.symm hb, h⟩, rfl⟩

theorem index_free {a : List UInt8} (h : (44 : UInt8) ∉ a) : Lib.index a [44] = -1 := by
  induction a with
  | nil => rfl
  | cons b l ih =>
    simp only [List.mem_cons, not_or] at h
    have hp : [(44 : UInt8)].isPrefixOf (b :: l) = false := by simp [List.isPrefixOf]; exact h.1
    unfold Lib.index
    rw [hp, ih h.2]
    rfl

theorem index_cut {a r : List UInt8} (h : (44 : UInt8) ∉ a) : Lib.index (a ++ 44 :: r) [44] = (a.length : Nat) := by
  induction a with
  | nil => simp [Lib.index, List.isPrefixOf]
  | cons b l ih =>
    simp only [List.mem_cons, not_or] at h
    have hp : [(44 : UInt8)].isPrefixOf (b :: (l ++ 44 :: r)) = false := by simp [List.isPrefixOf]; exact h.1
    rw [List.cons_append]
    unfold Lib.index
    rw [hp, ih h.2]
    have : ((l.length : Int) == -1) = false := by rw [beq_eq_false_iff_ne]; omega
    simp [this]

theorem split_pieces : ∀ (n : Nat) (l : List UInt8), l.length ≤ n → Lib.splitK [44] 0 (Lib.count l [44]) l = pieces l ∧ Lib.count l [44] + 1 = (pieces l).length := by
  intro n
  induction n with
  | zero =>
    intro l hl
    have : l = [] := List.length_eq_zero_iff.1 (by omega)
    subst this
    have h0 : Lib.index [] [44] = -1 := rfl
    rw [Lib.count_miss h0]
    exact ⟨rfl, rfl⟩
  | succ n ih =>
    intro l hl
    rcases comma_form l with h | ⟨a, r, h, rfl⟩
    · rw [Lib.count_miss (index_free h), pieces_free h]
      exact ⟨rfl, rfl⟩
    · have hi := index_cut (r := r) h
      have hd : (a ++ 44 :: r).drop (a.length + [(44 : UInt8)].length) = r := by
        rw [List.drop_append]; simp
      have hc := Lib.count_hit (s := a ++ 44 :: r) (sub := [44]) (by simp) hi
      rw [hd] at hc
      obtain ⟨h1, h2⟩ := ih r (by simp at hl; omega)
      rw [hc, pieces_cut h, Nat.add_comm 1]
      have hm : ¬ (Lib.index (a ++ 44 :: r) [44] == -1) = true := fun e => by have := beq_iff_eq.1 e; omega
      constructor
      · rw [Lib.splitK, if_neg hm, hi]
        rw [show ((a.length : Nat) : Int).toNat = a.length from rfl, hd, h1]
        simp
      · simp only [List.length_cons]; omega

theorem splitB_pieces (s : ByteArray) : (Lib.splitB ⟨#[44]⟩ 0 (Lib.countB s ⟨#[44]⟩) s).map (·.data.toList) = pieces s.data.toList ∧ Lib.countB s ⟨#[44]⟩ + 1 = (pieces s.data.toList).length := by
  rw [Lib.splitB_data]
  exact split_pieces _ s.data.toList (Nat.le_refl _)

/-- .. joined again -/
theorem join_cons_ne {x : List UInt8} {r : List (List UInt8)} (h : r ≠ []) : Lib.join (x :: r) [44] = x ++ 44 :: Lib.join r [44] := by
  obtain ⟨y, r', rfl⟩ := List.exists_cons_of_ne_nil h
  rw [Lib.join_cons, Lib.join_cons]
  simp [Lib.joinTail]

theorem join_pieces : ∀ (n : Nat) (l : List UInt8), l.length ≤ n → Lib.join (pieces l) [44] = l := by
  intro n
  induction n with
  | zero =>
    intro l hl
    have : l = [] := List.length_eq_zero_iff.1 (by omega)
    subst this
    exact Lib.join_one _ _
  | succ n ih =>
    intro l hl
    rcases comma_form l with h | ⟨a, r, h, rfl⟩
    · rw [pieces_free h]; exact Lib.join_one _ _
    · rw [pieces_cut h, join_cons_ne (pieces_ne r), ih r (by simp at hl; omega)]

theorem pieces_join {ps : List (List UInt8)} (h0 : ps ≠ []) (h : ∀ p ∈ ps, (44 : UInt8) ∉ p) : pieces (Lib.join ps [44]) = ps := by
  induction ps with
  | nil => exact absurd rfl h0
  | cons p r ih =>
    by_cases hr : r = []
    · subst hr; rw [Lib.join_one, pieces_free (h p (by simp))]
    · rw [join_cons_ne hr, pieces_cut (h p (by simp)), ih hr (fun q hq => h q (by simp [hq]))]

/-- which numbers are types -/
theorem right8 {t : Int} (h : rightB t 8 = true) : t ∈ [1, 2, 16, 17, 18, 19, 20, 21, 22, 23] := by
  unfold rightB at h
  rw [decide_eq_true_eq] at h
  simp only [List.mem_cons, List.not_mem_nil, or_false]
  omega

theorem parse_name {t : Int} (h : rightB t 8 = true) : parseB (nameL t) = true ∧ parseT (nameL t) = t ∧ (44 : UInt8) ∉ nameL t ∧ (nameL t).length ≤ 4 ∧ nameL t ≠ [45] := by
  have hm := right8 h
  have key : ∀ t ∈ ([1, 2, 16, 17, 18, 19, 20, 21, 22, 23] : List Int), parseB (nameL t) = true ∧ parseT (nameL t) = t ∧ (44 : UInt8) ∉ nameL t ∧ (nameL t).length ≤ 4 ∧ nameL t ≠ [45] := by decide
  exact key t hm

theorem name_parse {l : List UInt8} (h : parseB l = true) : nameL (parseT l) = l ∧ rightB (parseT l) 8 = true := by
  by_cases h1 : l = [105, 110, 116]
  · subst h1; decide
  by_cases h2 : l = [98, 111, 111, 108]
  · subst h2; decide
  by_cases h3 : l.length = 4 ∧ l.take 3 = [112, 105, 100]
  · have e1 : parseT l = ofN (((l.getD 3 0).toNat : Int) - 48) := by unfold parseT; rw [if_neg h1, if_neg h2, if_pos h3]
    have e2 : parseB l = ofOk (((l.getD 3 0).toNat : Int) - 48) := by unfold parseB; rw [if_neg h1, if_neg h2, if_pos h3]
    obtain ⟨c, rfl⟩ := pid_form h3
    rw [e2] at h
    rw [e1]
    have hc : ([112, 105, 100, c] : List UInt8).getD 3 0 = c := rfl
    rw [hc] at h ⊢
    unfold ofOk at h
    rw [decide_eq_true_eq] at h
    have hn : c.toNat = 48 ∨ c.toNat = 49 ∨ c.toNat = 50 ∨ c.toNat = 51 ∨ c.toNat = 52 ∨ c.toNat = 53 ∨ c.toNat = 54 ∨ c.toNat = 55 := by omega
    rcases hn with hn | hn | hn | hn | hn | hn | hn | hn
    all_goals
      have hc' : c = UInt8.ofNat c.toNat := by simp
      rw [hn] at hc'
      subst hc'
      decide
  · have e2 : parseB l = false := by unfold parseB; rw [if_neg h1, if_neg h2, if_neg h3]
    rw [e2] at h; cases h

theorem parse_no {l : List UInt8} (h : parseB l = false) : parseT l = 0 := by
  unfold parseB at h
  unfold parseT
  split at h
  · cases h
  · rename_i h1
    rw [if_neg h1]
    split at h
    · cases h
    · rename_i h2
      rw [if_neg h2]
      split at h
      · rename_i h3
        rw [if_pos h3]
        unfold ofOk at h
        unfold ofN
        rw [decide_eq_false_iff_not] at h
        rw [if_neg h]
      · rename_i h3
        rw [if_neg h3]

/-- the names of a list -/
def namesL (xs : List Int) : List UInt8 := if xs = [] then [45] else if xs.all (rightB · 8) then Lib.join (xs.map nameL) [44] else []

theorem namesL_all {xs : List Int} (h0 : xs ≠ []) (h : xs.all (rightB · 8) = true) : namesL xs = Lib.join (xs.map nameL) [44] := by
  unfold namesL; rw [if_neg h0, if_pos h]
theorem namesL_no {xs : List Int} (h : xs.all (rightB · 8) = false) : namesL xs = [] := by
  have h0 : xs ≠ [] := fun e => by subst e; cases h
  unfold namesL; rw [if_neg h0, h]; rfl

/-- what a text of names is read as -/
def listB (l : List UInt8) : Bool := if l = [45] then true else (pieces l).all parseB
def listL (l : List UInt8) : List Int := if l = [45] then [] else if (pieces l).all parseB then (pieces l).map parseT else []

theorem names_back {xs : List Int} (h : xs.all (rightB · 8) = true) : listB (namesL xs) = true ∧ listL (namesL xs) = xs := by
  by_cases h0 : xs = []
  · subst h0; exact ⟨rfl, rfl⟩
  · have hr : ∀ x ∈ xs, rightB x 8 = true := List.all_eq_true.1 h
    have hp : pieces (namesL xs) = xs.map nameL := by
      rw [namesL_all h0 h]
      exact pieces_join (by simpa using h0) (fun p hp => by obtain ⟨x, hx, rfl⟩ := List.mem_map.1 hp; exact (parse_name (hr x hx)).2.2.1)
    have hne : namesL xs ≠ [45] := by
      intro e
      rw [e] at hp
      have e2 : pieces [45] = [[45]] := rfl
      rw [e2] at hp
      obtain ⟨x, r, rfl⟩ := List.exists_cons_of_ne_nil h0
      simp only [List.map_cons, List.cons.injEq] at hp
      exact (parse_name (hr x (by simp))).2.2.2.2 hp.1.symm
    have hall : (pieces (namesL xs)).all parseB = true := by
      rw [hp, List.all_eq_true]
      intro p hp
      obtain ⟨x, hx, rfl⟩ := List.mem_map.1 hp
      exact (parse_name (hr x hx)).1
    unfold listB listL
    rw [if_neg hne, if_neg hne, if_pos hall, hp, List.map_map]
    refine ⟨hp ▸ hall, ?_⟩
    rw [List.map_congr_left (f := parseT ∘ nameL) (g := id) (fun x hx => (parse_name (hr x hx)).2.1), List.map_id]

theorem list_back {l : List UInt8} (h : listB l = true) : namesL (listL l) = l := by
  unfold listB at h
  unfold listL
  by_cases h1 : l = [45]
  · subst h1; rfl
  · rw [if_neg h1] at h
    rw [if_neg h1, if_pos h]
    have hp : ∀ p ∈ pieces l, parseB p = true := List.all_eq_true.1 h
    have h0 : (pieces l).map parseT ≠ [] := by simp [pieces_ne]
    rw [namesL_all h0]
    · rw [List.map_map, List.map_congr_left (f := nameL ∘ parseT) (g := id) (fun p hp' => (name_parse (hp p hp')).1), List.map_id]
      exact join_pieces _ l (Nat.le_refl _)
    · rw [List.all_eq_true]
      intro x hx
      obtain ⟨p, hp', rfl⟩ := List.mem_map.1 hx
      exact (name_parse (hp p hp')).2

theorem names_inj {xs ys : List Int} (hx : xs.all (rightB · 8) = true) (hy : ys.all (rightB · 8) = true) : namesL xs = namesL ys ↔ xs = ys := by
  constructor
  · intro e
    rw [← (names_back hx).2, ← (names_back hy).2, e]
  · intro e; rw [e]

/-- how long the names are -/
theorem join_len {ps : List (List UInt8)} (h : ∀ p ∈ ps, p.length ≤ 4) : (Lib.join ps [44]).length ≤ 5 * ps.length := by
  induction ps with
  | nil => simp [Lib.join_nil]
  | cons p r ih =>
    have hp := h p (by simp)
    have hr := ih (fun q hq => h q (by simp [hq]))
    by_cases h0 : r = []
    · subst h0; rw [Lib.join_one]; simp; omega
    · rw [join_cons_ne h0]; simp only [List.length_append, List.length_cons]; omega

theorem nameL_len (t : Int) : (nameL t).length ≤ 4 := by
  unfold nameL; split
  · simp
  · split
    · simp
    · split <;> simp

theorem pieces_len (l : List UInt8) : (pieces l).length ≤ l.length + 1 := by
  induction l with
  | nil => simp [pieces]
  | cons b l ih =>
    unfold pieces
    split
    · simp; omega
    · split
      · rename_i p r hpr; rw [hpr] at ih; simp at ih ⊢; omega
      · simp

theorem piece_le {l p : List UInt8} (h : p ∈ pieces l) : p.length ≤ l.length := by
  induction l generalizing p with
  | nil => simp [pieces] at h; subst h; simp
  | cons b l ih =>
    unfold pieces at h
    split at h
    · rcases List.mem_cons.1 h with rfl | h
      · simp
      · have := ih h; simp; omega
    · split at h
      · rename_i q r hpr
        rcases List.mem_cons.1 h with rfl | h
        · have := ih (p := q) (by rw [hpr]; simp); simp; omega
        · have := ih (p := p) (by rw [hpr]; simp [h]); simp; omega
      · simp at h; subst h; simp
end Go.Proofs.YtbckmmodobennaaDoor
