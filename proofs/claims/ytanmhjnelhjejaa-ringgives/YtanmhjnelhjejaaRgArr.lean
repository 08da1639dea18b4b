/-
  Rows of numbers that came in; a ring whose first slot isn't told; what its calls do, each in one contract.
-/
import Derived.Test.YtanmhjnelhjejaaRgTake
import Derived.Test.YtanmhjnelhjejaaRgNilCalls
import Derived.LoopTactic
namespace Go.Proofs.Ytanmhjnelhjejaa
open Go.RowKit
set_option linter.unusedVariables false
set_option maxRecDepth 8192

/-- a list of things of sz cells each that lies below block hi -/
structure Arr {α : Type} (PV : List Value → α → Prop) (sz hi : Nat) (w : World) (a : Option Addr) (n : Nat) (l : List α) : Prop where
  len : l.length = n
  small : n ≤ 9223372036854775807
  at' : n = 0 ∨ ∃ b off, a = some ⟨b, off, none⟩ ∧ b < hi ∧ ∀ i x, l[i]? = some x → ∃ vs, (∀ j v, vs[j]? = some v → w.cell? ⟨b, off + i * sz + j, none⟩ = some v) ∧ PV vs x

theorem cell_fr {S : Nat → Prop} {w w' : World} (hf : Fr S w w') {b i : Nat} {v : Value} (hS : ¬ S b) (h : w.cell? ⟨b, i, none⟩ = some v) : w'.cell? ⟨b, i, none⟩ = some v :=
  (World.cell?_of_block (w := w) (a := ⟨b, i, none⟩) (hf.block b (World.block_lt_of_cell? w ⟨b, i, none⟩ h) hS)).trans h

theorem Arr.fr {α : Type} {PV : List Value → α → Prop} {sz hi : Nat} {w w' : World} {a : Option Addr} {n : Nat} {l : List α} (h : Arr PV sz hi w a n l) {S : Nat → Prop} (hf : Fr S w w')
    (hS : ∀ k, S k → hi ≤ k) : Arr PV sz hi w' a n l := by
  refine ⟨h.len, h.small, ?_⟩
  rcases h.at' with h0 | ⟨b, off, rfl, h2, hc⟩
  · exact .inl h0
  · refine .inr ⟨b, off, rfl, h2, fun i x hx => ?_⟩
    obtain ⟨vs, g1, g2⟩ := hc i x hx
    exact ⟨vs, fun j v hv => cell_fr hf (fun hs => by have := hS b hs; omega) (g1 j v hv), g2⟩

theorem Arr.nil {α : Type} (PV : List Value → α → Prop) (sz hi : Nat) (w : World) (a : Option Addr) : Arr PV sz hi w a 0 [] := ⟨rfl, by omega, .inl rfl⟩

theorem Arr.at {α : Type} {PV : List Value → α → Prop} {sz hi : Nat} {w : World} {a : Option Addr} {n : Nat} {l : List α} (h : Arr PV sz hi w a n l) {i : Nat} (hi' : i < n) :
    ∃ b off x vs, a = some ⟨b, off, none⟩ ∧ b < hi ∧ l[i]? = some x ∧ (∀ j v, vs[j]? = some v → w.cell? ⟨b, off + i * sz + j, none⟩ = some v) ∧ PV vs x := by
  have hl := h.len
  rcases h.at' with h0 | ⟨b, off, rfl, h2, hc⟩
  · omega
  · have hx : l[i]? = some (l[i]'(by omega)) := List.getElem?_eq_getElem (by omega)
    obtain ⟨vs, g1, g2⟩ := hc i _ hx
    exact ⟨b, off, _, vs, rfl, h2, hx, g1, g2⟩

/-- a number, a pair of numbers, as the cells hold them -/
def TV (vs : List Value) (t : Int) : Prop := vs = [.int .i64 t] ∧ (-9223372036854775808 ≤ t ∧ t ≤ 9223372036854775807)
def PrV (vs : List Value) (c : Int × Int) : Prop := vs = [.int .i64 c.1, .int .i64 c.2] ∧ (-9223372036854775808 ≤ c.1 ∧ c.1 ≤ 9223372036854775807) ∧ (-9223372036854775808 ≤ c.2 ∧ c.2 ≤ 9223372036854775807)
abbrev NA := Arr TV 1
abbrev PrA := Arr PrV 2

theorem Arr.num {hi : Nat} {w : World} {a : Option Addr} {n : Nat} {l : List Int} (h : NA hi w a n l) {i : Nat} (hi' : i < n) :
    ∃ b off x, a = some ⟨b, off, none⟩ ∧ b < hi ∧ l[i]? = some x ∧ w.cell? ⟨b, off + i, none⟩ = some (.int .i64 x) := by
  obtain ⟨b, off, x, vs, h1, h2, h3, h4, rfl, _⟩ := h.at hi'
  have := h4 0 _ rfl
  simp at this
  exact ⟨b, off, x, h1, h2, h3, this⟩

/-- a ring whose first slot isn't told -/
def Rg (w : World) (b g S : Nat) (l : List Int) : Prop := ∃ f, IsR w b g S f l

theorem Rg.fr {P : Nat → Prop} {w w' : World} {b g S : Nat} {l : List Int} (h : Rg w b g S l) (hf : Fr P w w') (hb : ¬ P b) (hg : ¬ P g) : Rg w' b g S l := h.elim fun f h => ⟨f, h.fr hf hb hg⟩
theorem Rg.drewN {w : World} {b g S : Nat} {l : List Int} (h : Rg w b g S l) (n : Nat) : Rg (w.drewN n) b g S l := h.elim fun f h => ⟨f, h.drewN n⟩
theorem Rg.len {w : World} {b g S : Nat} {l : List Int} (h : Rg w b g S l) : l.length ≤ S := h.elim fun f h => h.len
theorem Rg.most {w : World} {b g S : Nat} {l : List Int} (h : Rg w b g S l) : S ≤ 4096 := h.elim fun f h => h.most

theorem Fr.ring {P : Nat → Prop} {a w w' : World} {b g : Nat} (h : Fr P a w) (k : FrR b g w w') (hb : a.heap.size ≤ b ∨ P b) (hg : a.heap.size ≤ g ∨ P g) : Fr P a w' :=
  h.trans k (fun _ _ h => h) (fun i hi e => by
    rcases e with rfl | rfl
    · exact hb.elim (fun h => by omega) (fun h => h)
    · exact hg.elim (fun h => by omega) (fun h => h))

def putL (S : Nat) (l : List Int) (x : Int) : List Int := if l.length < S then l ++ [x] else l
def pushL (S : Nat) (l : List Int) (x : Int) : List Int := if l.length < S then x :: l else l
def putC (S n : Nat) : Int := if n < S then 0 else 7

theorem rput {w : World} {b g S : Nat} {l : List Int} (h : Rg w b g S l) (x : Int) :
    Calls Try.prog 14 #[.pointer (some ⟨b, 0, none⟩), .int .i64 x] w fun e w' => e = .returned (.int .i64 (putC S l.length)) ∧ Rg w' b g S (putL S l x) ∧ FrR b g w w' := by
  obtain ⟨f, h⟩ := h
  unfold putC putL
  by_cases hl : l.length < S
  · rw [if_pos hl, if_pos hl]
    exact (put_ok h hl x).mono fun e w' ⟨h1, h2, h3⟩ => ⟨h1, ⟨_, h2⟩, h3⟩
  · rw [if_neg hl, if_neg hl]
    refine (put_full h (by have := h.len; omega) x).mono ?_
    rintro e w' ⟨rfl, nq, rfl⟩
    exact ⟨rfl, ⟨f, h.drewN nq⟩, (Fr.refl _ w).drewN nq⟩

theorem rpush {w : World} {b g S : Nat} {l : List Int} (h : Rg w b g S l) (x : Int) :
    Calls Try.prog 16 #[.pointer (some ⟨b, 0, none⟩), .int .i64 x] w fun e w' => e = .returned (.int .i64 (putC S l.length)) ∧ Rg w' b g S (pushL S l x) ∧ FrR b g w w' := by
  obtain ⟨f, h⟩ := h
  unfold putC pushL
  by_cases hl : l.length < S
  · rw [if_pos hl, if_pos hl]
    exact (push_ok h hl x).mono fun e w' ⟨h1, h2, h3⟩ => ⟨h1, ⟨_, h2⟩, h3⟩
  · rw [if_neg hl, if_neg hl]
    refine (push_full h (by have := h.len; omega) x).mono ?_
    rintro e w' ⟨rfl, nq, rfl⟩
    exact ⟨rfl, ⟨f, h.drewN nq⟩, (Fr.refl _ w).drewN nq⟩

theorem rtake_some {w : World} {b g S : Nat} {x : Int} {l : List Int} (h : Rg w b g S (x :: l)) :
    Calls Try.prog 18 #[.pointer (some ⟨b, 0, none⟩)] w fun e w' => e = .returned (.tuple #[.int .i64 x, .bool true]) ∧ Rg w' b g S l ∧ FrR b g w w' := by
  obtain ⟨f, h⟩ := h
  exact (take_some h).mono fun e w' ⟨h1, h2, h3⟩ => ⟨h1, ⟨_, h2⟩, h3⟩

theorem rtake_none {w : World} {b g S : Nat} (h : Rg w b g S []) :
    Calls Try.prog 18 #[.pointer (some ⟨b, 0, none⟩)] w fun e w' => e = .returned (.tuple #[.int .i64 0, .bool false]) ∧ Rg w' b g S [] ∧ FrR b g w w' := by
  obtain ⟨f, h⟩ := h
  refine (take_none h).mono ?_
  rintro e w' ⟨rfl, rfl⟩
  exact ⟨rfl, ⟨f, h⟩, Fr.refl _ _⟩

theorem rpop_some {w : World} {b g S : Nat} {x : Int} {l : List Int} (h : Rg w b g S (l ++ [x])) :
    Calls Try.prog 20 #[.pointer (some ⟨b, 0, none⟩)] w fun e w' => e = .returned (.tuple #[.int .i64 x, .bool true]) ∧ Rg w' b g S l ∧ FrR b g w w' := by
  obtain ⟨f, h⟩ := h
  exact (pop_some h).mono fun e w' ⟨h1, h2, h3⟩ => ⟨h1, ⟨_, h2⟩, h3⟩

theorem rpop_none {w : World} {b g S : Nat} (h : Rg w b g S []) :
    Calls Try.prog 20 #[.pointer (some ⟨b, 0, none⟩)] w fun e w' => e = .returned (.tuple #[.int .i64 0, .bool false]) ∧ Rg w' b g S [] ∧ FrR b g w w' := by
  obtain ⟨f, h⟩ := h
  refine (pop_none h).mono ?_
  rintro e w' ⟨rfl, rfl⟩
  exact ⟨rfl, ⟨f, h⟩, Fr.refl _ _⟩

theorem rlen {w : World} {b g S n : Nat} {l : List Int} (h : Rg w b g S l) (hn : Hid (l.length = n)) :
    Calls Try.prog 22 #[.pointer (some ⟨b, 0, none⟩)] w fun e w' => e = .returned (.int .i64 (n : Int)) ∧ w = w' := by
  obtain ⟨f, h⟩ := h
  rw [← hn.out]; exact len_calls h

theorem rsize {w : World} {b g S : Nat} {l : List Int} (h : Rg w b g S l) :
    Calls Try.prog 12 #[.pointer (some ⟨b, 0, none⟩)] w fun e w' => e = .returned (.int .i64 (S : Int)) ∧ w = w' := h.elim fun f h => size_calls h

theorem rnew (n : Int) (w : World) :
    Calls Try.prog 10 #[.int .i64 n] w fun e w' => e = .returned (.pointer (some ⟨w.heap.size + 1, 0, none⟩)) ∧ Rg w' (w.heap.size + 1) w.heap.size (clamp n) [] ∧ Fr (fun _ => False) w w' :=
  (rnew_calls n w).mono fun e w' ⟨h1, h2, h3⟩ => ⟨h1, ⟨0, h2⟩, h3⟩

theorem rput_ok {w : World} {b g S : Nat} {l : List Int} (h : Rg w b g S l) (hl : l.length < S) (x : Int) :
    Calls Try.prog 14 #[.pointer (some ⟨b, 0, none⟩), .int .i64 x] w fun e w' => e = .returned (.int .i64 0) ∧ Rg w' b g S (l ++ [x]) ∧ FrR b g w w' := by
  have := rput h x; unfold putC putL at this; rwa [if_pos hl, if_pos hl] at this

theorem rput_full {w : World} {b g S : Nat} {l : List Int} (h : Rg w b g S l) (hl : ¬ l.length < S) (x : Int) :
    Calls Try.prog 14 #[.pointer (some ⟨b, 0, none⟩), .int .i64 x] w fun e w' => e = .returned (.int .i64 7) ∧ Rg w' b g S l ∧ FrR b g w w' := by
  have := rput h x; unfold putC putL at this; rwa [if_neg hl, if_neg hl] at this

theorem rpush_ok {w : World} {b g S : Nat} {l : List Int} (h : Rg w b g S l) (hl : l.length < S) (x : Int) :
    Calls Try.prog 16 #[.pointer (some ⟨b, 0, none⟩), .int .i64 x] w fun e w' => e = .returned (.int .i64 0) ∧ Rg w' b g S (x :: l) ∧ FrR b g w w' := by
  have := rpush h x; unfold putC pushL at this; rwa [if_pos hl, if_pos hl] at this

theorem rpush_full {w : World} {b g S : Nat} {l : List Int} (h : Rg w b g S l) (hl : ¬ l.length < S) (x : Int) :
    Calls Try.prog 16 #[.pointer (some ⟨b, 0, none⟩), .int .i64 x] w fun e w' => e = .returned (.int .i64 7) ∧ Rg w' b g S l ∧ FrR b g w w' := by
  have := rpush h x; unfold putC pushL at this; rwa [if_neg hl, if_neg hl] at this

theorem rput' {w : World} {b g S : Nat} {l l' : List Int} {x c : Int} (h : Rg w b g S l) (hc : putC S l.length = c) (hl : putL S l x = l') :
    Calls Try.prog 14 #[.pointer (some ⟨b, 0, none⟩), .int .i64 x] w fun e w' => e = .returned (.int .i64 c) ∧ Rg w' b g S l' ∧ FrR b g w w' := by
  subst hc hl; exact rput h x

set_option maxHeartbeats 2000000 in
theorem lives_calls (w : World) : Calls Try.prog 9 #[] w fun e w' => e = .returned (.bool true) ∧ Fr (fun _ => False) w w' := by
  go_enter Try.func9, Try.ntmps9
  go_wp2_with (first
    | (go_at_call 10; refine (rnew _ _).mono ?_; rintro e w1 ⟨rfl, hR, hF⟩; rw [show clamp 2 = 2 from rfl] at hR)
    | (go_at_call 14; refine (rput' (by assumption) (by first | (simp [putC]; done) | (simp [putC]; exact rfl)) (by first | (simp [putL]; done) | (simp [putL]; exact rfl))).mono ?_; rintro e w2 ⟨rfl, hR2, hF2⟩; replace hF := hF.ring hF2 (.inl (by omega)) (.inl (by omega)))
    | (go_at_call 18; refine (rtake_some (by assumption)).mono ?_; rintro e w2 ⟨rfl, hR2, hF2⟩; replace hF := hF.ring hF2 (.inl (by omega)) (.inl (by omega)))
    | (go_at_call 22; refine (rlen (n := 1) (by assumption) (hide (by rfl))).mono ?_; rintro e w2 ⟨rfl, rfl⟩)
    | (go_at_call 12; refine (rsize (by assumption)).mono ?_; rintro e w2 ⟨rfl, rfl⟩))
  go_ret
  exact ⟨by simp, hF⟩

end Go.Proofs.Ytanmhjnelhjejaa
