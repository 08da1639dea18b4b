/-
  How rows of numbers and of steps that came in are read.
-/
import Derived.Test.YtijiackjlgpgpaaRows
import Derived.Test.YtijiackjlgpgpaaHpArr
import Derived.WalkKit
import Derived.ProofKit
import Derived.OpenShut
import Derived.ShutString
import Derived.ChangeOld
import Derived.Below
import Derived.Lib.SmallJoins
import Derived.SizedLaws
namespace Go.Proofs.Ytijiackjlgpgpaa
open Go.ChangeShapes Go.WideShapes Go.ChangeAt Go.RowKit Go.Deep
set_option linter.unusedVariables false
set_option maxRecDepth 100000

theorem own : ownKnob Try.prog.godebug = none := by kernel_rfl
theorem laidOut : laidOutB Try.prog = true := by kernel_rfl
theorem cellsI64 : Try.prog.cellsOf 2 = 1 := by kernel_rfl
theorem cellsInt : Try.prog.cellsOf 3 = 1 := by kernel_rfl
theorem cellsOp : Try.prog.cellsOf 32 = 3 := by kernel_rfl

theorem i64_bounds {a : Int} (h : (Lit.int .i64 a).wf = true) : -9223372036854775808 ≤ a ∧ a ≤ 9223372036854775807 := by
  simpa [Lit.wf, IntKind.min, IntKind.max, IntKind.signed, IntKind.bits] using h


section
variable {H : Type} {enc : TypeId × Value → H} {W : World} {sp : Nat → Bool} {held : Bool}

theorem arr_of {α : Type} [Inhabited α] {PV : List Value → α → Prop} {sz : Nat} {t e : TypeId} (ht : Try.prog.underlying t = some (.slice e)) (hc : Try.prog.cellsOf e = sz) (hpos : 0 < sz)
    (each : ∀ fuel cs x, DataW.trod enc Try.prog W 0 sp held fuel e cs = some x → cs.length = sz → ∃ y : α, PV cs y) {fuel : Nat} {cs : List Value} {x : DataW H × List MemPlace}
    (h : DataW.trod enc Try.prog W 0 sp held fuel t cs = some x) : ∃ a n c l, cs = [.slice a n c] ∧ (n ≤ c ∧ c ≤ 9223372036854775807) ∧ Arr PV sz W.heap.size W a n l := by
  rcases open_slice ht h with ⟨hcs, _⟩ | ⟨ad, len, cap, m, n, D, Pl, hcs, hb, hl, hm, hmm, hx, hel⟩
  · exact ⟨none, 0, 0, [], hcs, ⟨by omega, by omega⟩, Arr.nil _ _ _ _ _⟩
  · have hlm : len ≤ m := by rw [hmm]; split <;> omega
    unfold maxLen at hm
    refine ⟨some ad, len, cap, ?_⟩
    have each' : ∀ i, i < len → ∃ y : α, ∃ cs', (∀ j v, cs'[j]? = some v → W.cell? (ad.add (i * sz + j)) = some v) ∧ cs'.length = sz ∧ PV cs' y := by
      intro i hi
      obtain ⟨cs', h1, h2⟩ := hel i (by omega)
      rw [hc] at h1
      obtain ⟨_, hlen, hcell⟩ := World.cells?_some h1
      obtain ⟨y, hy⟩ := each _ _ _ h2 hlen
      refine ⟨y, cs', fun j v hj => ?_, hlen, hy⟩
      have hjl := (List.getElem?_eq_some_iff.1 hj).1
      have := hcell j (by omega)
      rw [Addr.add_add] at this
      rw [this]; exact hj
    obtain ⟨Y, hY⟩ := choose_lt each'
    refine ⟨(List.range len).map Y, hcs, ⟨hl, by omega⟩, by simp, by omega, ?_⟩
    by_cases h0 : len = 0
    · exact .inl h0
    · right
      obtain ⟨cs0, g1, g2, _⟩ := hY 0 (by omega)
      obtain ⟨b, off, spot⟩ := ad
      have hc0 := g1 0 (cs0[0]'(by omega)) (List.getElem?_eq_getElem (by omega))
      have hspot : spot = none := by simpa [Addr.add] using World.cell?_spot hc0
      subst hspot
      have ea : ∀ j, (⟨b, off, none⟩ : Addr).add j = ⟨b, off + j, none⟩ := fun j => by unfold Addr.add; split <;> simp_all
      refine ⟨b, off, rfl, World.block_lt_of_cell? W _ (by rw [ea] at hc0; exact hc0), fun i y hy => ?_⟩
      have hi : i < len := by have := (List.getElem?_eq_some_iff.1 hy).1; simpa using this
      rw [List.getElem?_map, List.getElem?_range hi] at hy
      simp only [Option.map_some, Option.some.injEq] at hy
      subst hy
      obtain ⟨cs', g1, g2, g3⟩ := hY i hi
      exact ⟨cs', fun j v hj => by have := g1 j v hj; rw [ea, ← Nat.add_assoc] at this; exact this, g3⟩

theorem ints_of {fuel : Nat} {cs : List Value} {x : DataW H × List MemPlace} (h : DataW.trod enc Try.prog W 0 sp held fuel 44 cs = some x) : ∃ a n c l, cs = [.slice a n c] ∧ (n ≤ c ∧ c ≤ 9223372036854775807) ∧ NA W.heap.size W a n l :=
  arr_of Try.underlying44 cellsInt (by omega) (fun fuel cs x h _ => by
    obtain ⟨k, rfl, _, hw⟩ := DataW.trod_int Try.underlying3 h
    exact ⟨k, rfl, i64_bounds hw⟩) h

theorem longs_of {fuel : Nat} {cs : List Value} {x : DataW H × List MemPlace} (h : DataW.trod enc Try.prog W 0 sp held fuel 43 cs = some x) : ∃ a n c l, cs = [.slice a n c] ∧ (n ≤ c ∧ c ≤ 9223372036854775807) ∧ NA W.heap.size W a n l :=
  arr_of Try.underlying43 cellsI64 (by omega) (fun fuel cs x h _ => by
    obtain ⟨k, rfl, _, hw⟩ := DataW.trod_int Try.underlying2 h
    exact ⟨k, rfl, i64_bounds hw⟩) h

instance : Inhabited Stp := ⟨⟨0, 0, 0⟩⟩

theorem stp_of {fuel : Nat} {cs : List Value} {x : DataW H × List MemPlace} (h : DataW.trod enc Try.prog W 0 sp held fuel 32 cs = some x) (hl : cs.length = 3) : ∃ y : Stp, StV cs y := by
  match cs, hl with
  | [v0, v1, v2], _ =>
    obtain ⟨xs, n, _, _, _, hlen, hg⟩ := DataW.trod_struct Try.underlying32 h
    have hlen' : xs.length = 3 := hlen
    match xs, hlen' with
    | [y0, y1, y2], _ =>
      have g0 : DataW.trod enc Try.prog W 0 sp held n 3 [v0] = some y0 := hg 0 _ rfl
      have g1 : DataW.trod enc Try.prog W 0 sp held n 2 [v1] = some y1 := hg 1 _ rfl
      have g2 : DataW.trod enc Try.prog W 0 sp held n 3 [v2] = some y2 := hg 2 _ rfl
      obtain ⟨K, e0, _, w0⟩ := DataW.trod_int Try.underlying3 g0
      obtain ⟨T, e1, _, w1⟩ := DataW.trod_int Try.underlying2 g1
      obtain ⟨X, e2, _, w2⟩ := DataW.trod_int Try.underlying3 g2
      simp at e0 e1 e2
      subst e0 e1 e2
      exact ⟨⟨K, T, X⟩, rfl, i64_bounds w0, i64_bounds w1, i64_bounds w2⟩

theorem stps_of {fuel : Nat} {cs : List Value} {x : DataW H × List MemPlace} (h : DataW.trod enc Try.prog W 0 sp held fuel 22 cs = some x) : ∃ a n c l, cs = [.slice a n c] ∧ (n ≤ c ∧ c ≤ 9223372036854775807) ∧ StA W.heap.size W a n l :=
  arr_of Try.underlying22 cellsOp (by omega) (fun fuel cs x h hl => stp_of h hl) h
end

/-- a script that came in -/
theorem open_stps {H : Type} {enc : TypeId × Value → H} {W : World} {base : Nat} {v : Value} {d : DataW H} {p : List MemPlace}
    (hv : Value.okWide Try.prog W .any base 22 v) (h : DataW.Trod enc Try.prog W 0 (fun _ => true) true 22 v d p) :
    ∃ a n c l, v = .slice a n c ∧ n ≤ c ∧ c ≤ 9223372036854775807 ∧ StA W.heap.size W a n l := by
  obtain ⟨a, len, cap, rfl⟩ := okWide_slice Try.underlying22 hv
  obtain ⟨fuel, hf⟩ := h
  obtain ⟨a0, n0, c0, l0, e0, ⟨q1, q2⟩, A0⟩ := stps_of hf
  simp [Value.cells] at e0
  obtain ⟨rfl, rfl, rfl⟩ := e0
  exact ⟨_, _, _, _, rfl, q1, q2, A0⟩

/-- a step that came in -/
theorem open_stp {H : Type} {enc : TypeId × Value → H} {W : World} {base : Nat} {v : Value} {d : DataW H} {p : List MemPlace}
    (hv : Value.okWide Try.prog W .any base 32 v) (h : DataW.Trod enc Try.prog W 0 (fun _ => true) true 32 v d p) :
    ∃ s : Stp, v = .agg #[.int .i64 s.c, .int .i64 s.t, .int .i64 s.x] ∧ I64 s.c ∧ I64 s.t ∧ I64 s.x := by
  obtain ⟨cs, rfl, hsz⟩ := okWide_struct Try.underlying32 hv
  rw [cellsOp] at hsz
  obtain ⟨l⟩ := cs
  obtain ⟨fuel, hf⟩ := h
  obtain ⟨s, rfl, h2⟩ := stp_of (cs := l) hf hsz
  exact ⟨s, rfl, h2⟩

end Go.Proofs.Ytijiackjlgpgpaa
