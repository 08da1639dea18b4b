/-
  Rows that came in: who does what, moves, truths.
-/
import Derived.Test.YtingpopcdihclaaDqItems
namespace Go.Proofs.Ytingpopcdihclaa
open Go.RowKit
set_option linter.unusedVariables false
set_option maxRecDepth 8192

/-- a list of things of sz cells each that lies below block hi -/
structure Arr {α : Type} (PV : List Value → α → Prop) (sz hi : Nat) (w : World) (a : Option Addr) (n : Nat) (l : List α) : Prop where
  len : l.length = n
  small : n ≤ 9223372036854775807
  at' : n = 0 ∨ ∃ b off, a = some ⟨b, off, none⟩ ∧ b < hi ∧ ∀ i x, l[i]? = some x → ∃ vs, (∀ j v, vs[j]? = some v → w.cell? ⟨b, off + i * sz + j, none⟩ = some v) ∧ PV vs x

theorem Arr.fr {α : Type} {PV : List Value → α → Prop} {sz hi : Nat} {w w' : World} {a : Option Addr} {n : Nat} {l : List α} (h : Arr PV sz hi w a n l) {S : Nat → Prop} (hf : Fr S w w')
    (hS : ∀ k, S k → hi ≤ k) : Arr PV sz hi w' a n l := by
  refine ⟨h.len, h.small, ?_⟩
  rcases h.at' with h0 | ⟨b, off, rfl, h2, hc⟩
  · exact .inl h0
  · refine .inr ⟨b, off, rfl, h2, fun i x hx => ?_⟩
    obtain ⟨vs, g1, g2⟩ := hc i x hx
    exact ⟨vs, fun j v hv => cell_fr hf (fun hs => by have := hS b hs; omega) (g1 j v hv), g2⟩

theorem Arr.nil {α : Type} (PV : List Value → α → Prop) (sz hi : Nat) (w : World) (a : Option Addr) : Arr PV sz hi w a 0 [] := ⟨rfl, by omega, .inl rfl⟩

theorem Arr.at {α : Type} {PV : List Value → α → Prop} {sz hi : Nat} {w : World} {a : Option Addr} {n : Nat} {l : List α} (h : Arr PV sz hi w a n l) {i : Nat} (hi' : i < n) :
    ∃ b off x vs, a = some ⟨b, off, none⟩ ∧ b < hi ∧ l[i]? = some x ∧ (∀ j v, vs[j]? = some v → w.cell? ⟨b, off + i * sz + j, none⟩ = some v) ∧ PV vs x := by
  have hl := h.len
  rcases h.at' with h0 | ⟨b, off, rfl, h2, hc⟩
  · omega
  · have hx : l[i]? = some (l[i]'(by omega)) := List.getElem?_eq_getElem (by omega)
    obtain ⟨vs, g1, g2⟩ := hc i _ hx
    exact ⟨b, off, _, vs, rfl, h2, hx, g1, g2⟩

/-- a row of a script: a thread's number, whether the owner pushes -/
structure Rw where
  t : Int
  p : Bool
/-- a move -/
structure Mv where
  bg : Bool
  n : Int
  op : Int
  v : Int

abbrev I64 (x : Int) : Prop := -9223372036854775808 ≤ x ∧ x ≤ 9223372036854775807
def RwV (vs : List Value) (r : Rw) : Prop := vs = [.int .i64 r.t, .bool r.p] ∧ I64 r.t
def MvV (vs : List Value) (m : Mv) : Prop := vs = [.bool m.bg, .int .i64 m.n, .int .i64 m.op, .int .i64 m.v] ∧ I64 m.n ∧ I64 m.op ∧ I64 m.v
def BoV (vs : List Value) (b : Bool) : Prop := vs = [.bool b]
abbrev RwA := Arr RwV 2
abbrev MvA := Arr MvV 4
abbrev BoA := Arr BoV 1

end Go.Proofs.Ytingpopcdihclaa
