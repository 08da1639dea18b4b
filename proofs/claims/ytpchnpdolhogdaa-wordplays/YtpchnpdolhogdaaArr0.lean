/-
  Rows that came in: things of any cells; numbers (with no list of 64-bit numbers of the program's own).
-/
import Derived.Test.YtpchnpdolhogdaaProg
import Derived.Test.YtpchnpdolhogdaaKit
namespace Go.Proofs.Ytpchnpdolhogdaa
open Go.RowKit
set_option linter.unusedVariables false
set_option maxRecDepth 8192

theorem cell_fr {S : Nat → Prop} {w w' : World} (hf : Fr S w w') {b i : Nat} {v : Value} (hS : ¬ S b) (h : w.cell? ⟨b, i, none⟩ = some v) : w'.cell? ⟨b, i, none⟩ = some v :=
  (World.cell?_of_block (w := w) (a := ⟨b, i, none⟩) (hf.block b (World.block_lt_of_cell? w ⟨b, i, none⟩ h) hS)).trans h

/-- a list of things of sz cells each that lies below block hi -/
structure Arr {α : Type} (PV : List Value → α → Prop) (sz hi : Nat) (w : World) (a : Option Addr) (n : Nat) (l : List α) : Prop where
  len : l.length = n
  small : n ≤ 9223372036854775807
  at' : n = 0 ∨ ∃ b off, a = some ⟨b, off, none⟩ ∧ b < hi ∧ ∀ i x, l[i]? = some x → ∃ vs, (∀ j v, vs[j]? = some v → w.cell? ⟨b, off + i * sz + j, none⟩ = some v) ∧ PV vs x

theorem Arr.fr {α : Type} {PV : List Value → α → Prop} {sz hi : Nat} {w w' : World} {a : Option Addr} {n : Nat} {l : List α} (h : Arr PV sz hi w a n l) {S : Nat → Prop} (hf : Fr S w w')
    (hS : ∀ k, S k → hi ≤ k) : Arr PV sz hi w' a n l := by
  refine ⟨h.len, h.small, ?_⟩
  rcases h.at' with h0 | ⟨b, off, rfl, h2, hc⟩
  · exact .inl h0
  · refine .inr ⟨b, off, rfl, h2, fun i x hx => ?_⟩
    obtain ⟨vs, g1, g2⟩ := hc i x hx
    exact ⟨vs, fun j v hv => cell_fr hf (fun hs => by have := hS b hs; omega) (g1 j v hv), g2⟩

theorem Arr.nil {α : Type} (PV : List Value → α → Prop) (sz hi : Nat) (w : World) (a : Option Addr) : Arr PV sz hi w a 0 [] := ⟨rfl, by omega, .inl rfl⟩

theorem Arr.at {α : Type} {PV : List Value → α → Prop} {sz hi : Nat} {w : World} {a : Option Addr} {n : Nat} {l : List α} (h : Arr PV sz hi w a n l) {i : Nat} (hi' : i < n) :
    ∃ b off x vs, a = some ⟨b, off, none⟩ ∧ b < hi ∧ l[i]? = some x ∧ (∀ j v, vs[j]? = some v → w.cell? ⟨b, off + i * sz + j, none⟩ = some v) ∧ PV vs x := by
  have hl := h.len
  rcases h.at' with h0 | ⟨b, off, rfl, h2, hc⟩
  · omega
  · have hx : l[i]? = some (l[i]'(by omega)) := List.getElem?_eq_getElem (by omega)
    obtain ⟨vs, g1, g2⟩ := hc i _ hx
    exact ⟨b, off, _, vs, rfl, h2, hx, g1, g2⟩

abbrev I64 (x : Int) : Prop := -9223372036854775808 ≤ x ∧ x ≤ 9223372036854775807
def NuV (vs : List Value) (x : Int) : Prop := vs = [.int .i64 x] ∧ I64 x
/-- numbers that came in -/
abbrev NuA := Arr NuV 1

theorem Arr.num {hi : Nat} {w : World} {a : Option Addr} {n : Nat} {l : List Int} (h : NuA hi w a n l) {i : Nat} (hi' : i < n) :
    ∃ b off x, a = some ⟨b, off, none⟩ ∧ b < hi ∧ l[i]? = some x ∧ I64 x ∧ w.cell? ⟨b, off + i, none⟩ = some (.int .i64 x) := by
  obtain ⟨b, off, x, vs, h1, h2, h3, h4, rfl, h5⟩ := h.at hi'
  have := h4 0 _ rfl
  simp at this
  exact ⟨b, off, x, h1, h2, h3, h5, this⟩

end Go.Proofs.Ytpchnpdolhogdaa
