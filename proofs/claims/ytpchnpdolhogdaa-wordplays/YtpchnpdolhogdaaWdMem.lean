/-
  A process's word in memory; its small functions walked.
-/
import Derived.Test.YtpchnpdolhogdaaProg
import Derived.Test.YtpchnpdolhogdaaKit
import Derived.Test.YtpchnpdolhogdaaWdPlain
import Derived.Laws.MakeOwn
import Derived.Laws.OwnMore
import Derived.Laws.EntriesVeiled
import Derived.Laws.ResultCell
import Derived.Deep.MidRow
import Derived.Deep.QuietTactic
import Derived.BigQuiet
import Derived.RegionTactic
import Derived.Deep.DeepFit
import Derived.Deep.RegionWith
namespace Go.Proofs.Ytpchnpdolhogdaa
open Go.RowKit
set_option linter.unusedVariables false
set_option maxRecDepth 8192

/-- an access that has caught nothing, as a value -/
def nx : Nat → Value
  | 0 => .nilFunc
  | 1 => .func (.func 25) #[] #[]
  | 4 => .func (.func 26) #[] #[]
  | 5 => .func (.func 27) #[] #[]
  | 6 => .func (.func 33) #[] #[]
  | 7 => .func (.func 28) #[] #[]
  | _ => .func (.func 29) #[] #[]

/-- a number in a block of its own -/
def Bx (w : World) (x : Nat) (v : Int) : Prop := w.heap[x]? = some (.cells #[.int .i64 v] 3 (0, 0))

/-- what a wake's second access has caught -/
def CX (w : World) (v : Value) (a c t : Int) : Prop :=
  ∃ x y z, v = .func (.func 34) #[] #[.pointer (some ⟨x, 0, none⟩), .pointer (some ⟨y, 0, none⟩), .pointer (some ⟨z, 0, none⟩)] ∧ Bx w x a ∧ Bx w y c ∧ Bx w z t

/-- a thread's next access, as a value -/
def NX (w : World) (v : Value) (p : Nat) : Prop :=
  (p = 2 ∧ CX w v 0 1 1) ∨ (p = 3 ∧ CX w v 2 3 0) ∨ (p ≠ 2 ∧ p ≠ 3 ∧ v = nx p)

/-- the word in block b -/
structure IsW (w : World) (b : Nat) (d : Wd) : Prop where
  blk : ∃ cs, w.heap[b]? = some (.cells cs 56 (0, 0)) ∧ cs.size = 10 ∧ cs[0]? = some (.int .i64 d.now) ∧ cs[1]? = some (.bool d.held) ∧ ∀ k, k < 8 → ∃ v, cs[2 + k]? = some v ∧ NX w v (d.pc k)

/-- a number's block -/
def IB (w : World) (k : Nat) : Prop := ∃ v, Bx w k v

theorem CX.fr {P : Nat → Prop} {w w' : World} {v : Value} {a c t : Int} (h : CX w v a c t) (hf : Fr P w w') (hP : ∀ k, IB w k → ¬ P k) : CX w' v a c t := by
  obtain ⟨x, y, z, h1, h2, h3, h4⟩ := h
  exact ⟨x, y, z, h1, hf.blk h2 (hP x ⟨_, h2⟩), hf.blk h3 (hP y ⟨_, h3⟩), hf.blk h4 (hP z ⟨_, h4⟩)⟩
theorem NX.fr {P : Nat → Prop} {w w' : World} {v : Value} {p : Nat} (h : NX w v p) (hf : Fr P w w') (hP : ∀ k, IB w k → ¬ P k) : NX w' v p :=
  h.elim (fun h => .inl ⟨h.1, h.2.fr hf hP⟩) (fun h => h.elim (fun h => .inr (.inl ⟨h.1, h.2.fr hf hP⟩)) (fun h => .inr (.inr h)))
theorem IsW.fr {P : Nat → Prop} {w w' : World} {b : Nat} {d : Wd} (h : IsW w b d) (hf : Fr P w w') (hb : ¬ P b) (hP : ∀ k, IB w k → ¬ P k) : IsW w' b d := by
  obtain ⟨cs, h1, h2, h3, h4, h5⟩ := h.blk
  exact ⟨cs, hf.blk h1 hb, h2, h3, h4, fun k hk => by obtain ⟨v, h6, h7⟩ := h5 k hk; exact ⟨v, h6, h7.fr hf hP⟩⟩
theorem NX.same {w w' : World} {v : Value} {p : Nat} (h : NX w v p) (e : w'.heap = w.heap) : NX w' v p := by
  unfold NX CX Bx at *
  rw [e]
  exact h
theorem IsW.same {w w' : World} {b : Nat} {d : Wd} (h : IsW w b d) (e : w'.heap = w.heap) : IsW w' b d := by
  obtain ⟨cs, h1, h2, h3, h4, h5⟩ := h.blk
  exact ⟨cs, by rw [e]; exact h1, h2, h3, h4, fun k hk => by obtain ⟨v, h6, h7⟩ := h5 k hk; exact ⟨v, h6, h7.same e⟩⟩
theorem IsW.up {w w' : World} {b : Nat} {d : Wd} (h : IsW w b d) (hf : Fr (fun _ => False) w w') : IsW w' b d := h.fr hf (fun h => h) (fun _ _ h => h)
theorem IsW.al {w : World} {b : Nat} {d : Wd} (h : IsW w b d) (o : Obj) : IsW (w.alloc o) b d := h.up ((Fr.refl (fun _ => False) w).alloc o)
theorem IsW.drewN {w : World} {b : Nat} {d : Wd} (h : IsW w b d) (n : Nat) : IsW (w.drewN n) b d := h.same rfl
theorem IsW.drew {w : World} {b : Nat} {d : Wd} (h : IsW w b d) : IsW w.drew b d := h.same rfl
theorem IsW.lt {w : World} {b : Nat} {d : Wd} (h : IsW w b d) : b < w.heap.size := by obtain ⟨cs, h1, _⟩ := h.blk; exact lt_of_blk h1
theorem IsW.free {w : World} {b : Nat} {d : Wd} (h : IsW w b d) (i : Nat) : w.frozen? ⟨b, i, none⟩ = false := by obtain ⟨cs, h1, _⟩ := h.blk; exact free_at h1 i
theorem IsW.c0 {w : World} {b : Nat} {d : Wd} (h : IsW w b d) : w.cell? ⟨b, 0, none⟩ = some (.int .i64 d.now) := by obtain ⟨cs, h1, h2⟩ := h.blk; rw [cell_at h1]; exact h2.2.1
theorem IsW.c1 {w : World} {b : Nat} {d : Wd} (h : IsW w b d) : w.cell? ⟨b, 1, none⟩ = some (.bool d.held) := by obtain ⟨cs, h1, h2⟩ := h.blk; rw [cell_at h1]; exact h2.2.2.1
theorem IsW.ct {w : World} {b : Nat} {d : Wd} (h : IsW w b d) {k : Nat} (hk : k < 8) : ∃ v, w.cell? ⟨b, 2 + k, none⟩ = some v ∧ NX w v (d.pc k) := by
  obtain ⟨cs, h1, _, _, _, h5⟩ := h.blk
  obtain ⟨v, h6, h7⟩ := h5 k hk
  exact ⟨v, by rw [cell_at h1]; exact h6, h7⟩
/-- no number's block is the word's -/
theorem IsW.nb {w : World} {b : Nat} {d : Wd} (h : IsW w b d) {k : Nat} (hk : IB w k) : ¬ k = b := by
  rintro rfl
  obtain ⟨cs, h1, _⟩ := h.blk
  obtain ⟨v, h2⟩ := hk
  unfold Bx at h2
  rw [h1] at h2
  cases h2

theorem IsW.snow {w : World} {b : Nat} {d : Wd} (h : IsW w b d) (x : Int) : IsW (w.setCell ⟨b, 0, none⟩ (.int .i64 x)) b ⟨x, d.held, d.pc⟩ := by
  obtain ⟨cs, h1, h2, h3, h4, h5⟩ := h.blk
  refine ⟨_, blk_setCell h1, by simpa using h2, ?_, ?_, fun k hk => ?_⟩
  · rw [Array.getElem?_setIfInBounds, if_pos (by omega), if_pos (by omega)]
  · rw [Array.getElem?_setIfInBounds, if_neg (by omega)]; exact h4
  · obtain ⟨v, h6, h7⟩ := h5 k hk
    refine ⟨v, ?_, h7.fr (Fr.set1 w b 0 _) (fun i hi => h.nb hi)⟩
    rw [Array.getElem?_setIfInBounds, if_neg (by omega)]; exact h6
theorem IsW.sheld {w : World} {b : Nat} {d : Wd} (h : IsW w b d) (x : Bool) : IsW (w.setCell ⟨b, 1, none⟩ (.bool x)) b ⟨d.now, x, d.pc⟩ := by
  obtain ⟨cs, h1, h2, h3, h4, h5⟩ := h.blk
  refine ⟨_, blk_setCell h1, by simpa using h2, ?_, ?_, fun k hk => ?_⟩
  · rw [Array.getElem?_setIfInBounds, if_neg (by omega)]; exact h3
  · rw [Array.getElem?_setIfInBounds, if_pos (by omega), if_pos (by omega)]
  · obtain ⟨v, h6, h7⟩ := h5 k hk
    refine ⟨v, ?_, h7.fr (Fr.set1 w b 1 _) (fun i hi => h.nb hi)⟩
    rw [Array.getElem?_setIfInBounds, if_neg (by omega)]; exact h6
theorem IsW.sth {w : World} {b : Nat} {d : Wd} (h : IsW w b d) {k : Nat} (hk : k < 8) {v : Value} {p : Nat} (hv : NX w v p) : IsW (w.setCell ⟨b, 2 + k, none⟩ v) b (d.set k p) := by
  obtain ⟨cs, h1, h2, h3, h4, h5⟩ := h.blk
  refine ⟨_, blk_setCell h1, by simpa using h2, ?_, ?_, fun j hj => ?_⟩
  · rw [Array.getElem?_setIfInBounds, if_neg (by omega)]; exact h3
  · rw [Array.getElem?_setIfInBounds, if_neg (by omega)]; exact h4
  · by_cases e : j = k
    · subst e
      refine ⟨v, ?_, ?_⟩
      · rw [Array.getElem?_setIfInBounds, if_pos (by omega), if_pos (by omega)]
      · show NX _ v (if j = j then p else d.pc j)
        rw [if_pos rfl]
        exact hv.fr (Fr.set1 w b _ _) (fun i hi => h.nb hi)
    · obtain ⟨u, h6, h7⟩ := h5 j hj
      refine ⟨u, ?_, ?_⟩
      · rw [Array.getElem?_setIfInBounds, if_neg (by omega)]; exact h6
      · show NX _ u (if j = k then p else d.pc j)
        rw [if_neg e]
        exact h7.fr (Fr.set1 w b _ _) (fun i hi => h.nb hi)

theorem NX.plain {w : World} {p : Nat} (h2 : p ≠ 2) (h3 : p ≠ 3) : NX w (nx p) p := .inr (.inr ⟨h2, h3, rfl⟩)

/-- as a value: none, or a function with what it has caught -/
theorem NX.open {w : World} {v : Value} {p : Nat} (h : NX w v p) : (p = 0 ∧ v = .nilFunc) ∨ (0 < p ∧ ∃ f c, v = .func (.func f) #[] c) := by
  rcases h with ⟨rfl, x, y, z, rfl, _⟩ | ⟨rfl, x, y, z, rfl, _⟩ | ⟨h2, h3, rfl⟩
  · exact .inr ⟨by omega, _, _, rfl⟩
  · exact .inr ⟨by omega, _, _, rfl⟩
  · by_cases h0 : p = 0
    · subst h0; exact .inl ⟨rfl, rfl⟩
    · refine .inr ⟨by omega, ?_⟩
      unfold nx
      split
      · exact absurd rfl h0
      all_goals exact ⟨_, _, rfl⟩

/-- of what was there the word's block alone has turned -/
abbrev FrW (b : Nat) := Fr (fun k => k = b)

/-- the word, changed if it is so -/
theorem change_yes {w : World} {b : Nat} {d : Wd} (h : IsW w b d) (y : Int) {x : Int} (hx : d.now = x) :
    Calls Try.prog 32 #[.pointer (some ⟨b, 0, none⟩), .int .i64 x, .int .i64 y] w fun e w' => e = .returned (.bool true) ∧ IsW w' b ⟨y, d.held, d.pc⟩ ∧ FrW b w w' := by
  have c0 := h.c0
  have f0 := h.free 0
  subst hx
  have hd : (d.now != d.now) = false := by simp
  have hs := h.snow y
  generalize d.now = n at *
  go_enter Try.func32, Try.ntmps32
  go_wp2
  go_ret
  exact ⟨rfl, hs, Fr.set1 w b 0 _⟩

theorem change_no {w : World} {b : Nat} {d : Wd} (h : IsW w b d) (x y : Int) (hx : d.now ≠ x) :
    Calls Try.prog 32 #[.pointer (some ⟨b, 0, none⟩), .int .i64 x, .int .i64 y] w fun e w' => e = .returned (.bool false) ∧ w = w' := by
  have c0 := h.c0
  have hd : (d.now != x) = true := by simpa using hx
  clear hx
  generalize d.now = n at *
  go_enter Try.func32, Try.ntmps32
  go_wp2
  go_ret
  exact ⟨rfl, rfl⟩

end Go.Proofs.Ytpchnpdolhogdaa
