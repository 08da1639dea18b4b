/-
  Lists of types, instructions, clauses, tables and actors in memory, all of their blocks from lo up to hi; and what leaves them alone.
-/
import Derived.Test.YthdpgachdegcgaaMoPure
import Derived.Test.YthdpgachdegcgaaKnSame
import Derived.Test.YthdpgachdegcgaaInBytes
namespace Go.Proofs.Ythdpgachdegcgaa
open Go.RowKit
set_option linter.unusedVariables false

structure Arr {α : Type} (PV : World → List Value → α → Prop) (sz lo hi : Nat) (w : World) (a : Option Addr) (n : Nat) (l : List α) : Prop where
  len : l.length = n
  small : n ≤ 9223372036854775807
  at' : n = 0 ∨ ∃ b off, a = some ⟨b, off, none⟩ ∧ lo ≤ b ∧ b < hi ∧ ∀ i x, l[i]? = some x → ∃ vs, (∀ j v, vs[j]? = some v → w.cell? ⟨b, off + i * sz + j, none⟩ = some v) ∧ PV w vs x

theorem cell_fr {S : Nat → Prop} {w w' : World} (hf : Fr S w w') {b i : Nat} {v : Value} (hS : ¬ S b) (h : w.cell? ⟨b, i, none⟩ = some v) : w'.cell? ⟨b, i, none⟩ = some v :=
  (World.cell?_of_block (w := w) (a := ⟨b, i, none⟩) (hf.block b (World.block_lt_of_cell? w ⟨b, i, none⟩ h) hS)).trans h

theorem Arr.fr {α : Type} {PV : World → List Value → α → Prop} {sz lo hi : Nat} {w w' : World} {a : Option Addr} {n : Nat} {l : List α} (h : Arr PV sz lo hi w a n l) {S : Nat → Prop} (hf : Fr S w w')
    (hS : ∀ k, S k → k < lo ∨ hi ≤ k) (hP : ∀ vs x, PV w vs x → PV w' vs x) : Arr PV sz lo hi w' a n l := by
  refine ⟨h.len, h.small, ?_⟩
  rcases h.at' with h0 | ⟨b, off, rfl, h1, h2, hc⟩
  · exact .inl h0
  · refine .inr ⟨b, off, rfl, h1, h2, fun i x hx => ?_⟩
    obtain ⟨vs, g1, g2⟩ := hc i x hx
    exact ⟨vs, fun j v hv => cell_fr hf (fun hs => by have := hS b hs; omega) (g1 j v hv), hP vs x g2⟩

theorem Arr.wide {α : Type} {PV PV' : World → List Value → α → Prop} {sz lo hi lo' hi' : Nat} {w : World} {a : Option Addr} {n : Nat} {l : List α} (h : Arr PV sz lo hi w a n l) (hl : lo' ≤ lo) (hh : hi ≤ hi')
    (hP : ∀ vs x, PV w vs x → PV' w vs x) : Arr PV' sz lo' hi' w a n l := by
  refine ⟨h.len, h.small, ?_⟩
  rcases h.at' with h0 | ⟨b, off, rfl, h1, h2, hc⟩
  · exact .inl h0
  · refine .inr ⟨b, off, rfl, by omega, by omega, fun i x hx => ?_⟩
    obtain ⟨vs, g1, g2⟩ := hc i x hx
    exact ⟨vs, g1, hP vs x g2⟩

theorem Arr.nil {α : Type} (PV : World → List Value → α → Prop) (sz lo hi : Nat) (w : World) (a : Option Addr) : Arr PV sz lo hi w a 0 [] := ⟨rfl, by omega, .inl rfl⟩

theorem Arr.at {α : Type} {PV : World → List Value → α → Prop} {sz lo hi : Nat} {w : World} {a : Option Addr} {n : Nat} {l : List α} (h : Arr PV sz lo hi w a n l) {i : Nat} (hi' : i < n) :
    ∃ b off x vs, a = some ⟨b, off, none⟩ ∧ lo ≤ b ∧ b < hi ∧ l[i]? = some x ∧ (∀ j v, vs[j]? = some v → w.cell? ⟨b, off + i * sz + j, none⟩ = some v) ∧ PV w vs x := by
  have hl := h.len
  rcases h.at' with h0 | ⟨b, off, rfl, h1, h2, hc⟩
  · omega
  · have hx : l[i]? = some (l[i]'(by omega)) := List.getElem?_eq_getElem (by omega)
    obtain ⟨vs, g1, g2⟩ := hc i _ hx
    exact ⟨b, off, _, vs, rfl, h1, h2, hx, g1, g2⟩

/-- a type, a pair of numbers, a table, an actor, as the cells hold them -/
def TV (w : World) (vs : List Value) (t : Int) : Prop := vs = [.int .i64 t] ∧ (-9223372036854775808 ≤ t ∧ t ≤ 9223372036854775807)
def PrV (w : World) (vs : List Value) (c : Int × Int) : Prop := vs = [.int .i64 c.1, .int .i64 c.2] ∧ (-9223372036854775808 ≤ c.1 ∧ c.1 ≤ 9223372036854775807) ∧ (-9223372036854775808 ≤ c.2 ∧ c.2 ≤ 9223372036854775807)
abbrev TyA := Arr TV 1
abbrev PrA := Arr PrV 2
def TbV (lo hi : Nat) (w : World) (vs : List Value) (t : List (Int × Int) × Int) : Prop :=
  ∃ a n c, vs = [.slice a n c, .int .i64 t.2] ∧ PrA lo hi w a n t.1 ∧ (-9223372036854775808 ≤ t.2 ∧ t.2 ≤ 9223372036854775807)
abbrev TbA (lo hi : Nat) := Arr (TbV lo hi) 2 lo hi

/-- the five lists of an actor -/
structure AcS (lo hi : Nat) (w : World) (s : Fin 5 → Option Addr × Nat × Nat) (x : Ac) : Prop where
  ps : TyA lo hi w (s 0).1 (s 0).2.1 x.ps
  rs : TyA lo hi w (s 1).1 (s 1).2.1 x.rs
  ms : TyA lo hi w (s 2).1 (s 2).2.1 x.ms
  cs : PrA lo hi w (s 3).1 (s 3).2.1 x.cs
  ts : TbA lo hi w (s 4).1 (s 4).2.1 x.ts
  rc : (s 1).2.1 ≤ (s 1).2.2 ∧ (s 1).2.2 ≤ 9223372036854775807

abbrev slV (s : Option Addr × Nat × Nat) : Value := .slice s.1 s.2.1 s.2.2
abbrev acV (s : Fin 5 → Option Addr × Nat × Nat) : Value := .agg #[.slice (s 0).1 (s 0).2.1 (s 0).2.2, .slice (s 1).1 (s 1).2.1 (s 1).2.2, .slice (s 2).1 (s 2).2.1 (s 2).2.2, .slice (s 3).1 (s 3).2.1 (s 3).2.2, .slice (s 4).1 (s 4).2.1 (s 4).2.2]
def AcV (lo hi : Nat) (w : World) (vs : List Value) (x : Ac) : Prop := ∃ s, vs = [slV (s 0), slV (s 1), slV (s 2), slV (s 3), slV (s 4)] ∧ AcS lo hi w s x
abbrev AcA (lo hi : Nat) := Arr (AcV lo hi) 5 lo hi
abbrev moV (a : Option Addr) (n c : Nat) : Value := .agg #[.slice a n c]

theorem TyA.fr {lo hi : Nat} {w w' : World} {a : Option Addr} {n : Nat} {l : List Int} (h : TyA lo hi w a n l) {S : Nat → Prop} (hf : Fr S w w') (hS : ∀ k, S k → k < lo ∨ hi ≤ k) : TyA lo hi w' a n l := Arr.fr h hf hS (fun _ _ h => h)
theorem PrA.fr {lo hi : Nat} {w w' : World} {a : Option Addr} {n : Nat} {l : List (Int × Int)} (h : PrA lo hi w a n l) {S : Nat → Prop} (hf : Fr S w w') (hS : ∀ k, S k → k < lo ∨ hi ≤ k) : PrA lo hi w' a n l := Arr.fr h hf hS (fun _ _ h => h)
theorem TbV.fr {lo hi : Nat} {w w' : World} {vs : List Value} {t : List (Int × Int) × Int} (h : TbV lo hi w vs t) {S : Nat → Prop} (hf : Fr S w w') (hS : ∀ k, S k → k < lo ∨ hi ≤ k) : TbV lo hi w' vs t := by
  obtain ⟨a, n, c, h1, h2, h3⟩ := h
  exact ⟨a, n, c, h1, PrA.fr h2 hf hS, h3⟩
theorem TbA.fr {lo hi : Nat} {w w' : World} {a : Option Addr} {n : Nat} {l : List (List (Int × Int) × Int)} (h : TbA lo hi w a n l) {S : Nat → Prop} (hf : Fr S w w') (hS : ∀ k, S k → k < lo ∨ hi ≤ k) : TbA lo hi w' a n l := Arr.fr h hf hS (fun _ _ h => h.fr hf hS)
theorem AcS.fr {lo hi : Nat} {w w' : World} {s : Fin 5 → Option Addr × Nat × Nat} {x : Ac} (h : AcS lo hi w s x) {S : Nat → Prop} (hf : Fr S w w') (hS : ∀ k, S k → k < lo ∨ hi ≤ k) : AcS lo hi w' s x :=
  ⟨TyA.fr h.ps hf hS, TyA.fr h.rs hf hS, TyA.fr h.ms hf hS, PrA.fr h.cs hf hS, TbA.fr h.ts hf hS, h.rc⟩
theorem AcV.fr {lo hi : Nat} {w w' : World} {vs : List Value} {x : Ac} (h : AcV lo hi w vs x) {S : Nat → Prop} (hf : Fr S w w') (hS : ∀ k, S k → k < lo ∨ hi ≤ k) : AcV lo hi w' vs x := by
  obtain ⟨s, h1, h2⟩ := h
  exact ⟨s, h1, h2.fr hf hS⟩
theorem AcA.fr {lo hi : Nat} {w w' : World} {a : Option Addr} {n : Nat} {l : List Ac} (h : AcA lo hi w a n l) {S : Nat → Prop} (hf : Fr S w w') (hS : ∀ k, S k → k < lo ∨ hi ≤ k) : AcA lo hi w' a n l := Arr.fr h hf hS (fun _ _ h => h.fr hf hS)

theorem Arr.take {α : Type} {PV : World → List Value → α → Prop} {sz lo hi : Nat} {w : World} {a : Option Addr} {n : Nat} {l : List α} (h : Arr PV sz lo hi w a n l) {k : Nat} (hk : k ≤ n) : Arr PV sz lo hi w a k (l.take k) := by
  have hl := h.len
  have hs := h.small
  refine ⟨by rw [List.length_take]; omega, by omega, ?_⟩
  rcases h.at' with h0 | ⟨b, off, rfl, h1, h2, hc⟩
  · exact .inl (by omega)
  · refine .inr ⟨b, off, rfl, h1, h2, fun i x hx => hc i x ?_⟩
    rw [List.getElem?_take] at hx
    split at hx
    · exact hx
    · cases hx
theorem TyA.drewN {lo hi : Nat} {w : World} {a : Option Addr} {n : Nat} {l : List Int} (h : TyA lo hi w a n l) (q : Nat) : TyA lo hi (w.drewN q) a n l := TyA.fr h ((Fr.refl (fun _ => False) w).drewN q) (fun _ h => h.elim)

theorem TbV.wide {lo hi lo' hi' : Nat} {w : World} {vs : List Value} {t : List (Int × Int) × Int} (h : TbV lo hi w vs t) (hl : lo' ≤ lo) (hh : hi ≤ hi') : TbV lo' hi' w vs t := by
  obtain ⟨a, n, c, h1, h2, h3⟩ := h
  exact ⟨a, n, c, h1, Arr.wide h2 hl hh (fun _ _ h => h), h3⟩
theorem TyA.wide {lo hi lo' hi' : Nat} {w : World} {a : Option Addr} {n : Nat} {l : List Int} (h : TyA lo hi w a n l) (hl : lo' ≤ lo) (hh : hi ≤ hi') : TyA lo' hi' w a n l := Arr.wide h hl hh (fun _ _ h => h)
theorem PrA.wide {lo hi lo' hi' : Nat} {w : World} {a : Option Addr} {n : Nat} {l : List (Int × Int)} (h : PrA lo hi w a n l) (hl : lo' ≤ lo) (hh : hi ≤ hi') : PrA lo' hi' w a n l := Arr.wide h hl hh (fun _ _ h => h)
theorem TbA.wide {lo hi lo' hi' : Nat} {w : World} {a : Option Addr} {n : Nat} {l : List (List (Int × Int) × Int)} (h : TbA lo hi w a n l) (hl : lo' ≤ lo) (hh : hi ≤ hi') : TbA lo' hi' w a n l := Arr.wide h hl hh (fun _ _ h => h.wide hl hh)
theorem AcS.wide {lo hi lo' hi' : Nat} {w : World} {s : Fin 5 → Option Addr × Nat × Nat} {x : Ac} (h : AcS lo hi w s x) (hl : lo' ≤ lo) (hh : hi ≤ hi') : AcS lo' hi' w s x :=
  ⟨TyA.wide h.ps hl hh, TyA.wide h.rs hl hh, TyA.wide h.ms hl hh, PrA.wide h.cs hl hh, TbA.wide h.ts hl hh, h.rc⟩
theorem AcA.wide {lo hi lo' hi' : Nat} {w : World} {a : Option Addr} {n : Nat} {l : List Ac} (h : AcA lo hi w a n l) (hl : lo' ≤ lo) (hh : hi ≤ hi') : AcA lo' hi' w a n l :=
  Arr.wide h hl hh (fun _ _ ⟨s, h1, h2⟩ => ⟨s, h1, h2.wide hl hh⟩)

/-- the cells at a place -/
theorem TyA.get {lo hi : Nat} {w : World} {a : Option Addr} {n : Nat} {l : List Int} (h : TyA lo hi w a n l) {i : Nat} (hi' : i < n) :
    ∃ b off t, a = some ⟨b, off, none⟩ ∧ lo ≤ b ∧ b < hi ∧ l[i]? = some t ∧ (-9223372036854775808 ≤ t ∧ t ≤ 9223372036854775807) ∧ w.cell? ⟨b, off + i, none⟩ = some (.int .i64 t) := by
  obtain ⟨b, off, x, vs, h1, h2, h3, h4, h5, rfl, h6⟩ := Arr.at h hi'
  have := h5 0 _ rfl
  rw [Nat.mul_one, Nat.add_zero] at this
  exact ⟨b, off, x, h1, h2, h3, h4, h6, this⟩
theorem PrA.get {lo hi : Nat} {w : World} {a : Option Addr} {n : Nat} {l : List (Int × Int)} (h : PrA lo hi w a n l) {i : Nat} (hi' : i < n) :
    ∃ b off p q, a = some ⟨b, off, none⟩ ∧ lo ≤ b ∧ b < hi ∧ l[i]? = some (p, q) ∧ (-9223372036854775808 ≤ p ∧ p ≤ 9223372036854775807) ∧ (-9223372036854775808 ≤ q ∧ q ≤ 9223372036854775807) ∧
      w.cell? ⟨b, off + i * 2, none⟩ = some (.int .i64 p) ∧ w.cell? ⟨b, off + i * 2 + 1, none⟩ = some (.int .i64 q) := by
  obtain ⟨b, off, x, vs, h1, h2, h3, h4, h5, rfl, h6, h7⟩ := Arr.at h hi'
  exact ⟨b, off, x.1, x.2, h1, h2, h3, h4, h6, h7, h5 0 _ rfl, h5 1 _ rfl⟩
theorem TbA.get {lo hi : Nat} {w : World} {a : Option Addr} {n : Nat} {l : List (List (Int × Int) × Int)} (h : TbA lo hi w a n l) {i : Nat} (hi' : i < n) :
    ∃ b off a' n' c' cl tm, a = some ⟨b, off, none⟩ ∧ lo ≤ b ∧ b < hi ∧ l[i]? = some (cl, tm) ∧ PrA lo hi w a' n' cl ∧ (-9223372036854775808 ≤ tm ∧ tm ≤ 9223372036854775807) ∧
      w.cell? ⟨b, off + i * 2, none⟩ = some (.slice a' n' c') ∧ w.cell? ⟨b, off + i * 2 + 1, none⟩ = some (.int .i64 tm) := by
  obtain ⟨b, off, x, vs, h1, h2, h3, h4, h5, a', n', c', rfl, h6, h7⟩ := Arr.at h hi'
  exact ⟨b, off, a', n', c', x.1, x.2, h1, h2, h3, h4, h6, h7, h5 0 _ rfl, h5 1 _ rfl⟩
theorem AcA.get {lo hi : Nat} {w : World} {a : Option Addr} {n : Nat} {l : List Ac} (h : AcA lo hi w a n l) {i : Nat} (hi' : i < n) :
    ∃ b off s x, a = some ⟨b, off, none⟩ ∧ lo ≤ b ∧ b < hi ∧ l[i]? = some x ∧ AcS lo hi w s x ∧
      w.cell? ⟨b, off + i * 5, none⟩ = some (.slice (s 0).1 (s 0).2.1 (s 0).2.2) ∧ w.cell? ⟨b, off + i * 5 + 1, none⟩ = some (.slice (s 1).1 (s 1).2.1 (s 1).2.2) ∧
      w.cell? ⟨b, off + i * 5 + 2, none⟩ = some (.slice (s 2).1 (s 2).2.1 (s 2).2.2) ∧ w.cell? ⟨b, off + i * 5 + 3, none⟩ = some (.slice (s 3).1 (s 3).2.1 (s 3).2.2) ∧
      w.cell? ⟨b, off + i * 5 + 4, none⟩ = some (.slice (s 4).1 (s 4).2.1 (s 4).2.2) := by
  obtain ⟨b, off, x, vs, h1, h2, h3, h4, h5, s, rfl, h6⟩ := Arr.at h hi'
  exact ⟨b, off, s, x, h1, h2, h3, h4, h6, h5 0 _ rfl, h5 1 _ rfl, h5 2 _ rfl, h5 3 _ rfl, h5 4 _ rfl⟩

/-- as the texts of package kinds have it -/
theorem TyA.row {lo hi : Nat} {w : World} {a : Option Addr} {n : Nat} {l : List Int} (h : TyA lo hi w a n l) : Row w a n (fun i => l.getD i 0) := by
  refine ⟨h.small, ?_⟩
  by_cases h0 : n = 0
  · exact .inl h0
  · obtain ⟨b, off, t, rfl, h1, h2, hx, hb, hc⟩ := TyA.get h (i := 0) (by omega)
    refine .inr ⟨b, off, rfl, World.block_lt_of_cell? w _ hc, fun i hi => ?_⟩
    obtain ⟨b', off', t', e, _, _, hx', hb', hc'⟩ := TyA.get h hi
    obtain ⟨rfl, rfl⟩ : b = b' ∧ off = off' := by simpa using e
    have e : l.getD i 0 = t' := by rw [List.getD_eq_getElem?_getD, hx']; rfl
    show (-9223372036854775808 ≤ l.getD i 0 ∧ l.getD i 0 ≤ 9223372036854775807) ∧ w.cell? ⟨b, off + i, none⟩ = some (.int .i64 (l.getD i 0))
    rw [e]
    exact ⟨hb', hc'⟩

theorem allX_l (l : List Int) (m : Int) : allX (fun i => l.getD i 0) l.length m = l.all (krightB · m) := by
  unfold allX
  rw [Bool.eq_iff_iff, List.all_eq_true, List.all_eq_true]
  constructor
  · intro h t ht
    obtain ⟨i, hi, rfl⟩ := List.getElem_of_mem ht
    have := h i (by simpa using hi)
    simpa [List.getD_eq_getElem?_getD, hi] using this
  · intro h i hi
    have hi' : i < l.length := by simpa using hi
    have := h _ (List.getElem_mem hi')
    simpa [List.getD_eq_getElem?_getD, hi'] using this

theorem sameX_l (l k : List Int) : sameX (fun i => l.getD i 0) l.length (fun i => k.getD i 0) k.length = decide (l = k) := by
  unfold sameX
  rw [Bool.eq_iff_iff, decide_eq_true_iff, decide_eq_true_iff]
  constructor
  · rintro ⟨h1, h2⟩
    refine List.ext_getElem h1 fun i hi hj => ?_
    have := h2 i hi
    simpa [List.getD_eq_getElem?_getD, hi, hj] using this
  · rintro rfl; exact ⟨rfl, fun _ _ => rfl⟩

theorem kall_calls {lo hi : Nat} {w : World} {a : Option Addr} {n : Nat} {l : List Int} (h : TyA lo hi w a n l) (c : Nat) (m : Int) :
    Calls Try.prog 95 #[.slice a n c, .int .i64 m] w fun e w' => e = .returned (.bool (l.all (krightB · m))) ∧ w = w' := by
  have := all_calls a n c (fun i => l.getD i 0) m w (TyA.row h)
  rw [← h.len, allX_l, h.len] at this
  exact this

theorem kall_ref {lo hi : Nat} {w : World} {a : Option Addr} {n : Nat} {l : List Int} (h : TyA lo hi w a n l) (c : Nat) (m : Int) :
    Calls Try.prog 62 #[.slice a n c, .int .i64 m] w fun e w' => e = .returned (.bool (l.all (krightB · m))) ∧ w = w' := by
  have := refAll_calls a n c (fun i => l.getD i 0) m w (TyA.row h)
  rw [← h.len, allX_l, h.len] at this
  exact this

theorem ksame_calls {lo hi lo' hi' : Nat} {w : World} {a a' : Option Addr} {n n' : Nat} {l l' : List Int} (h : TyA lo hi w a n l) (h' : TyA lo' hi' w a' n' l') (c c' : Nat) :
    Calls Try.prog 45 #[.slice a n c, .slice a' n' c'] w fun e w' => e = .returned (.bool (decide (l = l'))) ∧ ∃ q, w' = w.drewN q := by
  have := same_calls a n c (fun i => l.getD i 0) a' n' c' (fun i => l'.getD i 0) w (TyA.row h) (TyA.row h')
  rw [← h.len, ← h'.len, sameX_l, h.len, h'.len] at this
  exact this

theorem ksame_ref {lo hi lo' hi' : Nat} {w : World} {a a' : Option Addr} {n n' : Nat} {l l' : List Int} (h : TyA lo hi w a n l) (h' : TyA lo' hi' w a' n' l') (c c' : Nat) :
    Calls Try.prog 23 #[.slice a n c, .slice a' n' c'] w fun e w' => e = .returned (.bool (decide (l = l'))) ∧ ∃ q, w' = w.drewN q := by
  have := refSame_calls a n c (fun i => l.getD i 0) a' n' c' (fun i => l'.getD i 0) w (TyA.row h) (TyA.row h')
  rw [← h.len, ← h'.len, sameX_l, h.len, h'.len] at this
  exact this

theorem kall_val {lo hi : Nat} {w : World} {a : Option Addr} {n : Nat} {l : List Int} {m : Int} {r : Bool} (hr : l.all (krightB · m) = r) (h : TyA lo hi w a n l) (c : Nat) :
    Calls Try.prog 95 #[.slice a n c, .int .i64 m] w fun e w' => e = .returned (.bool r) ∧ w = w' := by
  subst hr; exact kall_calls h c m

theorem quiet_same {P : Program} {f : FuncId} {args : Array Value} {w : World} {n : Nat} {v : Value}
    (h : Calls P f args (w.drewN n) fun e w' => e = .returned v ∧ w.drewN n = w') : Calls P f args (w.drewN n) fun e w'' => e = .returned v ∧ ∃ m, w'' = w.drewN m :=
  h.mono fun _ _ ⟨he, hm⟩ => ⟨he, n, hm.symm⟩

theorem quiet_drew {P : Program} {f : FuncId} {args : Array Value} {w : World} {n : Nat} {v : Value}
    (h : Calls P f args (w.drewN n) fun e w' => e = .returned v ∧ ∃ q, w' = (w.drewN n).drewN q) : Calls P f args (w.drewN n) fun e w'' => e = .returned v ∧ ∃ m, w'' = w.drewN m :=
  h.mono fun _ _ ⟨he, q, hm⟩ => ⟨he, _, hm.trans (World.drewN_drewN _ _ _)⟩

end Go.Proofs.Ythdpgachdegcgaa
