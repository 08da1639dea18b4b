/-
  Rows that came in: numbers, and a heap's steps; a row cut short; a step's kind.
-/
import Derived.Test.YtijiackjlgpgpaaHpLives
import Derived.LoopTactic
namespace Go.Proofs.Ytijiackjlgpgpaa
open Go.RowKit
set_option linter.unusedVariables false
set_option maxRecDepth 8192

/-- a list of things of sz cells each that lies below block hi -/
structure Arr {α : Type} (PV : List Value → α → Prop) (sz hi : Nat) (w : World) (a : Option Addr) (n : Nat) (l : List α) : Prop where
  len : l.length = n
  small : n ≤ 9223372036854775807
  at' : n = 0 ∨ ∃ b off, a = some ⟨b, off, none⟩ ∧ b < hi ∧ ∀ i x, l[i]? = some x → ∃ vs, (∀ j v, vs[j]? = some v → w.cell? ⟨b, off + i * sz + j, none⟩ = some v) ∧ PV vs x

theorem cell_fr {S : Nat → Prop} {w w' : World} (hf : Fr S w w') {b i : Nat} {v : Value} (hS : ¬ S b) (h : w.cell? ⟨b, i, none⟩ = some v) : w'.cell? ⟨b, i, none⟩ = some v :=
  (World.cell?_of_block (w := w) (a := ⟨b, i, none⟩) (hf.block b (World.block_lt_of_cell? w ⟨b, i, none⟩ h) hS)).trans h

theorem Arr.fr {α : Type} {PV : List Value → α → Prop} {sz hi : Nat} {w w' : World} {a : Option Addr} {n : Nat} {l : List α} (h : Arr PV sz hi w a n l) {S : Nat → Prop} (hf : Fr S w w')
    (hS : ∀ k, S k → hi ≤ k) : Arr PV sz hi w' a n l := by
  refine ⟨h.len, h.small, ?_⟩
  rcases h.at' with h0 | ⟨b, off, rfl, h2, hc⟩
  · exact .inl h0
  · refine .inr ⟨b, off, rfl, h2, fun i x hx => ?_⟩
    obtain ⟨vs, g1, g2⟩ := hc i x hx
    exact ⟨vs, fun j v hv => cell_fr hf (fun hs => by have := hS b hs; omega) (g1 j v hv), g2⟩

theorem Arr.nil {α : Type} (PV : List Value → α → Prop) (sz hi : Nat) (w : World) (a : Option Addr) : Arr PV sz hi w a 0 [] := ⟨rfl, by omega, .inl rfl⟩

theorem Arr.at {α : Type} {PV : List Value → α → Prop} {sz hi : Nat} {w : World} {a : Option Addr} {n : Nat} {l : List α} (h : Arr PV sz hi w a n l) {i : Nat} (hi' : i < n) :
    ∃ b off x vs, a = some ⟨b, off, none⟩ ∧ b < hi ∧ l[i]? = some x ∧ (∀ j v, vs[j]? = some v → w.cell? ⟨b, off + i * sz + j, none⟩ = some v) ∧ PV vs x := by
  have hl := h.len
  rcases h.at' with h0 | ⟨b, off, rfl, h2, hc⟩
  · omega
  · have hx : l[i]? = some (l[i]'(by omega)) := List.getElem?_eq_getElem (by omega)
    obtain ⟨vs, g1, g2⟩ := hc i _ hx
    exact ⟨b, off, _, vs, rfl, h2, hx, g1, g2⟩

/-- a number, a pair of numbers, as the cells hold them -/
def TV (vs : List Value) (t : Int) : Prop := vs = [.int .i64 t] ∧ (-9223372036854775808 ≤ t ∧ t ≤ 9223372036854775807)
abbrev NA := Arr TV 1


theorem Arr.num {hi : Nat} {w : World} {a : Option Addr} {n : Nat} {l : List Int} (h : NA hi w a n l) {i : Nat} (hi' : i < n) :
    ∃ b off x, a = some ⟨b, off, none⟩ ∧ b < hi ∧ l[i]? = some x ∧ w.cell? ⟨b, off + i, none⟩ = some (.int .i64 x) := by
  obtain ⟨b, off, x, vs, h1, h2, h3, h4, rfl, _⟩ := h.at hi'
  have := h4 0 _ rfl
  simp at this
  exact ⟨b, off, x, h1, h2, h3, this⟩

/-- a step: its kind's number, its tick, its thing -/
structure Stp where
  c : Int
  t : Int
  x : Int

def I64 (a : Int) : Prop := -9223372036854775808 ≤ a ∧ a ≤ 9223372036854775807
def StV (vs : List Value) (s : Stp) : Prop := vs = [.int .i64 s.c, .int .i64 s.t, .int .i64 s.x] ∧ I64 s.c ∧ I64 s.t ∧ I64 s.x
abbrev StA := Arr StV 3

theorem Arr.take {α : Type} {PV : List Value → α → Prop} {sz hi : Nat} {w : World} {a : Option Addr} {n : Nat} {l : List α} (h : Arr PV sz hi w a n l) (k : Nat) (hk : k ≤ n) : Arr PV sz hi w a k (l.take k) := by
  have hl := h.len
  refine ⟨by rw [List.length_take]; omega, by have := h.small; omega, ?_⟩
  rcases h.at' with h0 | ⟨b, off, rfl, h2, hc⟩
  · exact .inl (by omega)
  · refine .inr ⟨b, off, rfl, h2, fun i x hx => hc i x ?_⟩
    rw [List.getElem?_take] at hx
    split at hx
    · exact hx
    · cases hx

theorem Arr.stp {hi : Nat} {w : World} {a : Option Addr} {n : Nat} {l : List Stp} (h : StA hi w a n l) {i : Nat} (hi' : i < n) :
    ∃ b off s, a = some ⟨b, off, none⟩ ∧ b < hi ∧ l[i]? = some s ∧ (w.cell? ⟨b, off + i * 3, none⟩ = some (.int .i64 s.c) ∧ w.cell? ⟨b, off + i * 3 + 1, none⟩ = some (.int .i64 s.t) ∧ w.cell? ⟨b, off + i * 3 + 2, none⟩ = some (.int .i64 s.x)) ∧ I64 s.c ∧ I64 s.t ∧ I64 s.x := by
  obtain ⟨b, off, x, vs, h1, h2, h3, h4, rfl, h5⟩ := h.at hi'
  have q0 := h4 0 _ rfl
  have q1 := h4 1 _ rfl
  have q2 := h4 2 _ rfl
  simp at q0
  exact ⟨b, off, x, h1, h2, h3, ⟨q0, q1, q2⟩, h5⟩

theorem early_calls (w : World) (a : Option Addr) (n c : Nat) (hn : n ≤ c) (hc : c ≤ 9223372036854775807) :
    Calls Try.prog 11 #[.slice a n c] w fun e w' => e = .returned (.slice a (min n 3000) c) ∧ w = w' := by
  by_cases h : n ≤ 3000
  · have h' : (n : Int) ≤ 3000 := by omega
    rw [Nat.min_eq_left h]
    go_enter Try.func11, Try.ntmps11
    go_wp2
    go_ret
    exact ⟨rfl, rfl⟩
  · have h' : ¬ (n : Int) ≤ 3000 := by omega
    rw [Nat.min_eq_right (by omega)]
    go_enter Try.func11, Try.ntmps11
    go_wp2
    go_ret
    exact ⟨rfl, rfl⟩

def kd (k : Int) : Int := wrap64 ((IntKind.u64.wrap k).tmod 4)

theorem kd_lt (k : Int) : kd k = 0 ∨ kd k = 1 ∨ kd k = 2 ∨ kd k = 3 := by
  unfold kd
  have h1 : 0 ≤ IntKind.u64.wrap k := by simp [IntKind.wrap, IntKind.signed, IntKind.bits]; omega
  obtain ⟨n, hn⟩ := Int.eq_ofNat_of_zero_le h1
  rw [hn]
  have e : (Int.ofNat n).tmod 4 = ((n % 4 : Nat) : Int) := rfl
  have h2 := Nat.mod_lt n (show 0 < 4 by omega)
  simp only [Int.ofNat_eq_natCast] at e ⊢
  rw [e]
  unfold wrap64
  omega

theorem kind_calls (c t x : Int) (w : World) :
    Calls Try.prog 13 #[.agg #[.int .i64 c, .int .i64 t, .int .i64 x]] w fun e w' => e = .returned (.int .i64 (kd c)) ∧ Fr (fun _ => False) w w' := by
  go_enter Try.func13, Try.ntmps13
  go_wp2
  go_ret
  exact ⟨rfl, (Fr.refl _ w).alloc _⟩

theorem kind_val {c k : Int} (h : kd c = k) (t x : Int) (w : World) :
    Calls Try.prog 13 #[.agg #[.int .i64 c, .int .i64 t, .int .i64 x]] w fun e w' => e = .returned (.int .i64 k) ∧ Fr (fun _ => False) w w' := h ▸ kind_calls c t x w

end Go.Proofs.Ytijiackjlgpgpaa
