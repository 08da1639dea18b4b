/-
  A process's word as plain numbers: what it is, whether the holder holds, each thread's next access; each access as a plain function.
-/
namespace Go.Proofs.Ytpchnpdolhogdaa

/-- a word: what it is, does the holder hold, each thread's next access (0: none; 1 to 3 a wake's, 4 a start, 5 and 6 a sleep's, 7 a yield, 8 a die) -/
structure Wd where
  now : Int
  held : Bool
  pc : Nat → Nat

/-- what an access makes of the word, tells, and what comes next -/
structure Ac where
  came : Int
  now : Int
  held : Bool
  pc : Nat

def Wd.set (d : Wd) (k p : Nat) : Wd := ⟨d.now, d.held, fun i => if i = k then p else d.pc i⟩
def Wd.new : Wd := ⟨1, false, fun _ => 0⟩
def Wd.put (d : Wd) (a : Ac) : Wd := ⟨a.now, a.held, d.pc⟩

/-- an access -/
def acc (n : Int) (h : Bool) : Nat → Ac
  | 1 => if n = 0 then ⟨-1, n, h, 2⟩ else if n = 2 then ⟨-1, n, h, 3⟩ else ⟨0, n, h, 0⟩
  | 2 => if n = 0 then ⟨1, 1, h, 0⟩ else ⟨-1, n, h, 1⟩
  | 3 => if n = 2 then ⟨0, 3, h, 0⟩ else ⟨-1, n, h, 1⟩
  | 4 => if n = 1 then ⟨0, 2, true, 0⟩ else ⟨3, n, h, 0⟩
  | 5 => if n = 2 then ⟨0, 0, false, 0⟩ else ⟨-1, n, h, 6⟩
  | 6 => if n = 3 then ⟨2, 2, h, 0⟩ else ⟨3, n, h, 0⟩
  | 7 => if n = 2 then ⟨1, 1, false, 0⟩ else if n = 3 then ⟨1, 1, false, 0⟩ else ⟨3, n, false, 0⟩
  | 8 => ⟨0, 4, false, 0⟩
  | _ => ⟨0, n, h, 0⟩

/-- a thread's step -/
def wstp (d : Wd) (k : Nat) : Wd × Int := ((d.put (acc d.now d.held (d.pc k))).set k (acc d.now d.held (d.pc k)).pc, (acc d.now d.held (d.pc k)).came)

/-- an operation's first access, 0 if the op isn't one of the thread's -/
def fpc (k : Nat) (op : Int) : Nat :=
  if k = 0 then (if op = 1 then 4 else if op = 2 then 5 else if op = 3 then 7 else if op = 4 then 8 else 0) else if op = 0 then 1 else 0

/-- a thread begins -/
def bgn (d : Wd) (n op : Int) : Wd × Int :=
  if 0 ≤ n ∧ n < 8 then
    (if fpc n.toNat op = 0 then (d, 1) else if 0 < d.pc n.toNat then (d, 14) else if n.toNat = 0 ∧ (d.held = true ↔ op = 1) then (d, 13) else (d.set n.toNat (fpc n.toNat op), 0))
  else (d, 1)

/-- what is under way is the thread's own -/
structure Ow (d : Wd) : Prop where
  le : ∀ k, d.pc k ≤ 8
  zero : d.pc 0 = 0 ∨ 4 ≤ d.pc 0
  more : ∀ k, 0 < k → d.pc k ≤ 3
  now : 0 ≤ d.now ∧ d.now ≤ 4
  held : d.held = true ↔ (d.now = 2 ∨ d.now = 3)
  start : d.pc 0 = 4 → d.held = false
  rest : 5 ≤ d.pc 0 → d.held = true
  again : d.pc 0 = 6 → d.now = 3

theorem acc_le (n : Int) (h : Bool) (p : Nat) : (acc n h p).pc ≤ 8 := by
  unfold acc
  split <;> (try split) <;> (try split) <;> simp

theorem Ow.new : Ow Wd.new := ⟨fun _ => Nat.zero_le _, .inl rfl, fun _ _ => Nat.zero_le _, ⟨by decide, by decide⟩, ⟨fun h => (by cases h), fun h => (by rcases h with h | h <;> cases h)⟩, fun h => (by cases h), fun h => (by cases h), fun h => (by cases h)⟩

theorem fpc_le (k : Nat) (op : Int) : fpc k op ≤ 8 := by
  unfold fpc
  repeat' split
  all_goals omega

theorem Ow.set {d : Wd} (h : Ow d) {k p : Nat} (h8 : p ≤ 8) (h0 : k = 0 → p = 0 ∨ 4 ≤ p) (h1 : 0 < k → p ≤ 3) (hs : k = 0 → p = 4 → d.held = false) (hr : k = 0 → 5 ≤ p → d.held = true) (ha : k = 0 → p = 6 → d.now = 3) : Ow (d.set k p) := by
  obtain ⟨a, b, c, e, f, g, i, j⟩ := h
  refine ⟨fun l => ?_, ?_, fun l hl => ?_, e, f, ?_, ?_, ?_⟩
  · show (if l = k then p else d.pc l) ≤ 8
    split
    · exact h8
    · exact a l
  · show (if 0 = k then p else d.pc 0) = 0 ∨ 4 ≤ (if 0 = k then p else d.pc 0)
    split
    · exact h0 (by omega)
    · exact b
  · show (if l = k then p else d.pc l) ≤ 3
    split
    · exact h1 (by omega)
    · exact c l hl
  · show (if 0 = k then p else d.pc 0) = 4 → d.held = false
    split
    · exact hs (by omega)
    · exact g
  · show 5 ≤ (if 0 = k then p else d.pc 0) → d.held = true
    split
    · exact hr (by omega)
    · exact i
  · show (if 0 = k then p else d.pc 0) = 6 → d.now = 3
    split
    · exact ha (by omega)
    · exact j

/-- a wake's access: what it may make of the word -/
theorem acc_wake {n : Int} {h : Bool} {p : Nat} (h1 : 0 < p) (h3 : p ≤ 3) :
    (acc n h p).held = h ∧ (acc n h p).pc ≤ 3 ∧ ((acc n h p).now = n ∨ (n = 0 ∧ (acc n h p).now = 1) ∨ (n = 2 ∧ (acc n h p).now = 3)) := by
  have : p = 1 ∨ p = 2 ∨ p = 3 := by omega
  rcases this with rfl | rfl | rfl <;> simp only [acc]
  · by_cases h0 : n = 0
    · simp [h0]
    · by_cases h2 : n = 2 <;> simp [h0, h2]
  · by_cases h0 : n = 0 <;> simp [h0]
  · by_cases h2 : n = 2 <;> simp [h2]

theorem Ow.wstp {d : Wd} (h : Ow d) {k : Nat} (hp : 0 < d.pc k) : Ow (wstp d k).1 := by
  obtain ⟨a, b, c, e, f, g, i, j⟩ := h
  by_cases hk : k = 0
  · subst hk
    have h8 := a 0
    have : d.pc 0 = 4 ∨ d.pc 0 = 5 ∨ d.pc 0 = 6 ∨ d.pc 0 = 7 ∨ d.pc 0 = 8 := by omega
    have key : ((acc d.now d.held (d.pc 0)).pc = 0 ∨ ((acc d.now d.held (d.pc 0)).pc = 6 ∧ (acc d.now d.held (d.pc 0)).now = 3 ∧ (acc d.now d.held (d.pc 0)).held = true)) ∧ (0 ≤ (acc d.now d.held (d.pc 0)).now ∧ (acc d.now d.held (d.pc 0)).now ≤ 4) ∧
        ((acc d.now d.held (d.pc 0)).held = true ↔ ((acc d.now d.held (d.pc 0)).now = 2 ∨ (acc d.now d.held (d.pc 0)).now = 3)) := by
      rcases this with q | q | q | q | q <;> rw [q] <;> simp only [acc]
      · have hh := g q
        have hn : ¬ (d.now = 2 ∨ d.now = 3) := by rw [← f, hh]; simp
        split
        · simp
        · refine ⟨.inl rfl, e, ?_⟩; dsimp only; rw [hh]; simp; omega
      · have hh := i (by omega)
        have hn := f.1 hh
        split
        · simp
        · refine ⟨.inr ⟨rfl, by dsimp only; omega, hh⟩, e, ?_⟩; dsimp only; rw [hh]; simp; omega
      · have hh := i (by omega)
        have hn := j q
        rw [if_pos hn]
        simp [hh]
      · have hh := i (by omega)
        have hn := f.1 hh
        rcases hn with hn | hn <;> simp [hn]
      · simp
    obtain ⟨k1, k2, k3⟩ := key
    refine ⟨fun l => ?_, ?_, fun l hl => ?_, k2, k3, ?_, ?_, ?_⟩
    · show (if l = 0 then _ else d.pc l) ≤ 8
      split
      · exact acc_le _ _ _
      · exact a l
    · show (acc d.now d.held (d.pc 0)).pc = 0 ∨ 4 ≤ (acc d.now d.held (d.pc 0)).pc
      omega
    · show (if l = 0 then _ else d.pc l) ≤ 3
      rw [if_neg (by omega)]
      exact c l hl
    · show (acc d.now d.held (d.pc 0)).pc = 4 → _
      intro h; omega
    · show 5 ≤ (acc d.now d.held (d.pc 0)).pc → (acc d.now d.held (d.pc 0)).held = true
      intro h
      rcases k1 with h' | h'
      · omega
      · exact h'.2.2
    · show (acc d.now d.held (d.pc 0)).pc = 6 → (acc d.now d.held (d.pc 0)).now = 3
      intro h
      rcases k1 with h' | h'
      · omega
      · exact h'.2.1
  · have h3 := c k (by omega)
    obtain ⟨w1, w2, w3⟩ := acc_wake (n := d.now) (h := d.held) hp h3
    refine ⟨fun l => ?_, ?_, fun l hl => ?_, ?_, ?_, ?_, ?_, ?_⟩
    · show (if l = k then _ else d.pc l) ≤ 8
      split
      · exact acc_le _ _ _
      · exact a l
    · show (if 0 = k then _ else d.pc 0) = 0 ∨ 4 ≤ (if 0 = k then _ else d.pc 0)
      rw [if_neg (by omega)]; exact b
    · show (if l = k then _ else d.pc l) ≤ 3
      split
      · exact w2
      · exact c l hl
    · show 0 ≤ (acc d.now d.held (d.pc k)).now ∧ (acc d.now d.held (d.pc k)).now ≤ 4
      omega
    · show (acc d.now d.held (d.pc k)).held = true ↔ ((acc d.now d.held (d.pc k)).now = 2 ∨ (acc d.now d.held (d.pc k)).now = 3)
      rw [w1, f]; omega
    · show (if 0 = k then _ else d.pc 0) = 4 → (acc d.now d.held (d.pc k)).held = false
      rw [if_neg (by omega), w1]; exact g
    · show 5 ≤ (if 0 = k then _ else d.pc 0) → (acc d.now d.held (d.pc k)).held = true
      rw [if_neg (by omega), w1]; exact i
    · show (if 0 = k then _ else d.pc 0) = 6 → (acc d.now d.held (d.pc k)).now = 3
      rw [if_neg (by omega)]
      intro h
      have := j h
      omega

end Go.Proofs.Ytpchnpdolhogdaa
