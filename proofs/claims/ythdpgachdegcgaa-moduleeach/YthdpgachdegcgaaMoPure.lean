/-
  Modules as plain lists: which are right, their bytes, how many bytes they have. Of no program.
-/
import Derived.Test.YthdpgachdegcgaaInPure
import Derived.Test.YthdpgachdegcgaaKnPure
namespace Go.Proofs.Ythdpgachdegcgaa
set_option linter.unusedVariables false

/-- an actor: Params, Regs, Messages, Code (Op, A), Tables (Clauses (Tag, To), Timeout) -/
structure Ac where
  ps : List Int
  rs : List Int
  ms : List Int
  cs : List (Int × Int)
  ts : List (List (Int × Int) × Int)

theorem Ac.ext' {x y : Ac} (h1 : x.ps = y.ps) (h2 : x.rs = y.rs) (h3 : x.ms = y.ms) (h4 : x.cs = y.cs) (h5 : x.ts = y.ts) : x = y := by
  cases x; cases y; simp_all

def longT (t : List (Int × Int) × Int) : Bool := decide (t.1.length > 8)
def longA (x : Ac) : Bool := decide (x.ps.length > 4) || decide (x.rs.length > 16) || decide (x.ms.length > 8) || decide (x.cs.length > 200) || decide (x.ts.length > 8) || x.ts.any longT
def longM (m : List Ac) : Bool := decide (m.length > 8) || m.any longA

def timeB (n : Int) : Bool := decide (-1 ≤ n) && decide (n < 200)
def clauseB (c : Int × Int) : Bool := decide (0 ≤ c.1) && decide (c.1 < 8) && decide (0 ≤ c.2) && decide (c.2 < 200)
def rtypesB (x : Ac) (n : Int) : Bool := x.rs.all (krightB · n) && x.ms.all (krightB · n) && x.ps.isPrefixOf x.rs
def rcodeB (l : List (Int × Int)) : Bool := l.all (fun i => rightB i.1 i.2) && !l.isEmpty
def rtabB (t : List (Int × Int) × Int) : Bool := timeB t.2 && t.1.all clauseB
def rtabsB (l : List (List (Int × Int) × Int)) : Bool := l.all rtabB
def rightA (x : Ac) (n : Int) : Bool := rtypesB x n && rcodeB x.cs && rtabsB x.ts
def headB (m : List Ac) : Bool := match m with | [] => false | x :: _ => x.ps.isEmpty
def rightM (m : List Ac) : Bool := headB m && m.all (rightA · m.length)
def rightE (m : List Ac) : Int := if longM m then 3 else if rightM m then 0 else 4

theorem rightE_ok {m : List Ac} (h : rightE m = 0) : longM m = false ∧ rightM m = true := by
  unfold rightE at h
  cases h1 : longM m <;> cases h2 : rightM m <;> simp_all
theorem rightE_of {m : List Ac} (h : longM m = false) (h' : rightM m = true) : rightE m = 0 := by unfold rightE; simp [h, h']
theorem rightE_cases (m : List Ac) : rightE m = 0 ∨ rightE m = 3 ∨ rightE m = 4 := by unfold rightE; split <;> (try split) <;> simp

/-- bytes -/
def tyB (l : List Int) : List UInt8 := Lib.uvarint l.length ++ l.map (fun t => t.toNat.toUInt8)
def cdB (l : List (Int × Int)) : List UInt8 := Lib.uvarint l.length ++ l.flatMap (fun i => insB i.1 i.2)
def clB (c : Int × Int) : List UInt8 := Lib.uvarint c.1.toNat ++ Lib.uvarint c.2.toNat
def clsB (l : List (Int × Int)) : List UInt8 := Lib.uvarint l.length ++ l.flatMap clB
def tbB (t : List (Int × Int) × Int) : List UInt8 := clsB t.1 ++ Lib.uvarint (Lib.zigzag t.2)
def tsB (l : List (List (Int × Int) × Int)) : List UInt8 := Lib.uvarint l.length ++ l.flatMap tbB
def acB (x : Ac) : List UInt8 := tyB x.ps ++ tyB x.rs ++ tyB x.ms ++ cdB x.cs ++ tsB x.ts
def magB : List UInt8 := [67, 66, 49]
def moB (m : List Ac) : List UInt8 := magB ++ (Lib.uvarint m.length ++ m.flatMap acB)

theorem uv_le {x : Nat} (h : x < 18446744073709551616) : (Lib.uvarint x).length ≤ 10 := by
  rw [← vb_length]; exact vb_le x h

theorem flat_le {α : Type} (f : α → List UInt8) (c : Nat) : ∀ (l : List α), (∀ x ∈ l, (f x).length ≤ c) → (l.flatMap f).length ≤ l.length * c
  | [], _ => by simp
  | x :: r, h => by
    have h1 := h x (by simp)
    have h2 := flat_le f c r (fun y hy => h y (by simp [hy]))
    simp only [List.flatMap_cons, List.length_append, List.length_cons, Nat.add_mul]
    omega

theorem map_flat (l : List Int) : l.map (fun t => t.toNat.toUInt8) = l.flatMap (fun t => [t.toNat.toUInt8]) := by
  induction l with
  | nil => rfl
  | cons a r ih => simp [ih]

theorem tyB_le {l : List Int} {k : Nat} (h : l.length ≤ k) (hk : k ≤ 1000) : (tyB l).length ≤ 10 + k := by
  have := uv_le (x := l.length) (by omega)
  simp [tyB]; omega

theorem cdB_le {l : List (Int × Int)} (h : l.length ≤ 200) (hr : ∀ i ∈ l, rightB i.1 i.2 = true) : (cdB l).length ≤ 2210 := by
  have h1 := uv_le (x := l.length) (by omega)
  have h2 := flat_le (fun i : Int × Int => insB i.1 i.2) 11 l (fun i hi => insB_length_le _ _ (.inr (right_fits (hr i hi))))
  simp only [cdB, List.length_append]; omega

theorem clB_le {c : Int × Int} (h : clauseB c = true) : (clB c).length ≤ 20 := by
  simp [clauseB] at h
  have h1 := uv_le (x := c.1.toNat) (by omega)
  have h2 := uv_le (x := c.2.toNat) (by omega)
  simp only [clB, List.length_append]; omega

theorem clsB_le {l : List (Int × Int)} (h : l.length ≤ 8) (hr : ∀ c ∈ l, clauseB c = true) : (clsB l).length ≤ 170 := by
  have h1 := uv_le (x := l.length) (by omega)
  have h2 := flat_le clB 20 l (fun c hc => clB_le (hr c hc))
  simp only [clsB, List.length_append]; omega

theorem time_zig {n : Int} (h : timeB n = true) : Lib.zigzag n < 18446744073709551616 := by
  simp [timeB] at h; exact zig_lt (by omega)

theorem tbB_le {t : List (Int × Int) × Int} (h : longT t = false) (hr : rtabB t = true) : (tbB t).length ≤ 180 := by
  simp [longT] at h
  simp only [rtabB, Bool.and_eq_true, List.all_eq_true] at hr
  have h1 := clsB_le h hr.2
  have h2 := uv_le (time_zig hr.1)
  simp only [tbB, List.length_append]; omega

theorem tsB_le {l : List (List (Int × Int) × Int)} (h : l.length ≤ 8) (hl : ∀ t ∈ l, longT t = false) (hr : ∀ t ∈ l, rtabB t = true) : (tsB l).length ≤ 1450 := by
  have h1 := uv_le (x := l.length) (by omega)
  have h2 := flat_le tbB 180 l (fun t ht => tbB_le (hl t ht) (hr t ht))
  simp only [tsB, List.length_append]; omega

theorem longA_no {x : Ac} (h : longA x = false) : x.ps.length ≤ 4 ∧ x.rs.length ≤ 16 ∧ x.ms.length ≤ 8 ∧ x.cs.length ≤ 200 ∧ x.ts.length ≤ 8 ∧ ∀ t ∈ x.ts, longT t = false := by
  simp only [longA, Bool.or_eq_false_iff, decide_eq_false_iff_not, List.any_eq_false, Nat.not_lt, gt_iff_lt] at h
  obtain ⟨⟨⟨⟨⟨h1, h2⟩, h3⟩, h4⟩, h5⟩, h6⟩ := h
  exact ⟨h1, h2, h3, h4, h5, fun t ht => by simpa using h6 t ht⟩

theorem rightA_yes {x : Ac} {n : Int} (h : rightA x n = true) : (∀ t ∈ x.rs, krightB t n = true) ∧ (∀ t ∈ x.ms, krightB t n = true) ∧ x.ps <+: x.rs ∧ (∀ i ∈ x.cs, rightB i.1 i.2 = true) ∧ x.cs ≠ [] ∧ ∀ t ∈ x.ts, rtabB t = true := by
  simp only [rightA, rtypesB, rcodeB, rtabsB, Bool.and_eq_true, List.all_eq_true, List.isPrefixOf_iff_prefix, Bool.not_eq_true', List.isEmpty_eq_false_iff] at h
  obtain ⟨⟨⟨⟨h1, h2⟩, h3⟩, h4, h5⟩, h6⟩ := h
  exact ⟨h1, h2, h3, h4, h5, h6⟩

theorem acB_le {x : Ac} {n : Int} (h : longA x = false) (hr : rightA x n = true) : (acB x).length ≤ 3718 := by
  obtain ⟨a1, a2, a3, a4, a5, a6⟩ := longA_no h
  obtain ⟨b1, b2, b3, b4, b5, b6⟩ := rightA_yes hr
  have h1 := tyB_le a1 (by omega)
  have h2 := tyB_le a2 (by omega)
  have h3 := tyB_le a3 (by omega)
  have h4 := cdB_le a4 b4
  have h5 := tsB_le a5 a6 b6
  simp only [acB, List.length_append]; omega

theorem longM_no {m : List Ac} (h : longM m = false) : m.length ≤ 8 ∧ ∀ x ∈ m, longA x = false := by
  simp only [longM, Bool.or_eq_false_iff, decide_eq_false_iff_not, List.any_eq_false, Nat.not_lt, gt_iff_lt] at h
  exact ⟨h.1, fun x hx => by simpa using h.2 x hx⟩

theorem rightM_yes {m : List Ac} (h : rightM m = true) : headB m = true ∧ ∀ x ∈ m, rightA x m.length = true := by
  simpa [rightM, List.all_eq_true] using h

theorem moB_le {m : List Ac} (h : rightE m = 0) : (moB m).length ≤ 30000 := by
  obtain ⟨h1, h2⟩ := rightE_ok h
  obtain ⟨a1, a2⟩ := longM_no h1
  obtain ⟨b1, b2⟩ := rightM_yes h2
  have c1 := uv_le (x := m.length) (by omega)
  have c2 := flat_le acB 3718 m (fun x hx => acB_le (a2 x hx) (b2 x hx))
  simp only [moB, magB, List.length_append, List.length_cons, List.length_nil]; omega

theorem krightB_byte {t n : Int} (h : krightB t n = true) : 0 ≤ t ∧ t ≤ 255 := by
  simp only [krightB, decide_eq_true_eq] at h; omega

end Go.Proofs.Ythdpgachdegcgaa
